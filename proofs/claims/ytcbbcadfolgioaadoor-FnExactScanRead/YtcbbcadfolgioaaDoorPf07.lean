/-
  Texts of the proof, put together.
-/
import Derived.Test.YtcbbcadfolgioaaDoorPf06
namespace Go.Proofs.YtcbbcadfolgioaaDoor
open Go.RowKit Go.Joins TakeMath FiltMath
theorem specPaeth_byte {a b c:Int} (W:World) (ha:0≤a∧a < 256) (hb:0≤b∧b < 256) (hc:0≤c∧c < 256):Calls Tryd.prog 106 #[.int .i64 a,.int .i64 b,.int .i64 c] W fun e w'=>e=.returned (.int .i64 (paeth a b c))∧w'=W:=
 specPaeth_in a b c W ⟨by omega,by omega⟩ ⟨by omega,by omega⟩ ⟨by omega,by omega⟩
set_option maxHeartbeats 3200000 in
theorem specSays (k:Int) (a:Option Addr) (n cap:Nat) (r:Nat→Int) (above:ByteArray) (unit i:Nat) (w:World) (hu:1≤unit∧unit≤8) (hi:i < above.size) (hs:above.size≤200) (hr:∀ i,0≤r i∧r i < 256)
  (hrow:unit≤i→∃ g,a=some ⟨g,0,none⟩∧i - unit < n∧g < w.heap.size∧w.cell? ⟨g,i - unit,none⟩=some (.int .u8 (r (i - unit)))):
  Calls Tryd.prog 96 #[.int .i64 k,.slice a n cap,.string above,.int .i64 (unit:Int),.int .i64 (i:Int)] w fun e w'=>e=.returned (.int .i64 (says k r (bts above) unit i))∧w'=w:=by
 have HB:Hid ((above[i]'hi).toNat=byteAt above i):=byteAt_get above i hi
 have hb2:(above[i]'hi).toNat < 256:=UInt8.toNat_lt _
 have il:(i:Int) < (above.size:Int):=by omega
 by_cases hq:unit≤i
 ·have dq:decide ((unit:Int)≤(i:Int))=true:=decide_eq_true (by omega)
  have dn:decide (unit≤i)=true:=decide_eq_true hq
  obtain⟨g,rfl,hn,hg,hc⟩:=hrow hq
  obtain⟨m,hm⟩:∃ m,m=i - unit:=⟨_,rfl⟩
  have hmi:(i:Int) - (unit:Int)=(m:Int):=by omega
  have hml:m < above.size:=by omega
  have HM:Hid ((above[m]'hml).toNat=byteAt above m):=byteAt_get above m hml
  have hm2:(above[m]'hml).toNat < 256:=UInt8.toNat_lt _
  have HS:Hid (says k r (bts above) unit i=told k (r m) ((above[i]'hi).toNat:Int) ((above[m]'hml).toNat:Int)):=by
   show told k (aheadB r unit i) (bts above i) (aheadB (bts above) unit i)=_
   unfold aheadB
   rw[if_pos hq,if_pos hq,← hm]
   unfold bts
   rw[HB.out,HM.out]
  rw[HS.out]
  rw[← hm] at hn hc
  have hrm:=hr m
  generalize r m=A at hc hrm ⊢
  have hp:=fun W=>specPaeth_byte (a:=A) (b:=((above[i]'hi).toNat:Int)) (c:=((above[m]'hml).toNat:Int)) W hrm (by omega) (by omega)
  clear HS HB HM hrow hq hm
  unfold told
  by_cases k1:k=1
  ·subst k1
   rw[if_pos rfl]
   go_enter Tryd.func96,Tryd.ntmps96
   go_wp2_with fail
   go_ret
   exact⟨rfl,rfl⟩
  by_cases k2:k=2
  ·subst k2
   rw[if_neg (by decide)]
   rw[if_pos rfl]
   go_enter Tryd.func96,Tryd.ntmps96
   go_wp2_with fail
   go_ret
   exact⟨rfl,rfl⟩
  by_cases k3:k=3
  ·subst k3
   rw[if_neg (by decide)]
   rw[if_neg (by decide)]
   rw[if_pos rfl]
   go_enter Tryd.func96,Tryd.ntmps96
   go_wp2_with fail
   go_ret
   exact⟨rfl,rfl⟩
  by_cases k4:k=4
  ·subst k4
   rw[if_neg (by decide)]
   rw[if_neg (by decide)]
   rw[if_neg (by decide)]
   rw[if_pos rfl]
   go_enter Tryd.func96,Tryd.ntmps96
   go_wp2_with fail
   refine (hp _).mono ?_
   rintro e w1 ⟨rfl,rfl⟩
   go_wp2_with fail
   go_ret
   exact⟨rfl,rfl⟩
  rw[if_neg k1,if_neg k2,if_neg k3,if_neg k4]
  have b1:=beq_no13 k1
  have b2:=beq_no13 k2
  have b3:=beq_no13 k3
  have b4:=beq_no13 k4
  go_enter Tryd.func96,Tryd.ntmps96
  go_wp2_with fail
  go_ret
  exact⟨rfl,rfl⟩
 ·have dq:decide ((unit:Int)≤(i:Int))=false:=decide_eq_false (by omega)
  have dn:decide (unit≤i)=false:=decide_eq_false hq
  have HS:Hid (says k r (bts above) unit i=told k 0 ((above[i]'hi).toNat:Int) 0):=by
   show told k (aheadB r unit i) (bts above i) (aheadB (bts above) unit i)=_
   unfold aheadB
   rw[if_neg hq,if_neg hq]
   unfold bts
   rw[HB.out]
  rw[HS.out]
  have hp:=fun W=>specPaeth_byte (a:=0) (b:=((above[i]'hi).toNat:Int)) (c:=0) W (by omega) (by omega) (by omega)
  clear HS HB hrow hq
  unfold told
  by_cases k1:k=1
  ·subst k1
   rw[if_pos rfl]
   go_enter Tryd.func96,Tryd.ntmps96
   go_wp2_with fail
   go_ret
   exact⟨rfl,rfl⟩
  by_cases k2:k=2
  ·subst k2
   rw[if_neg (by decide)]
   rw[if_pos rfl]
   go_enter Tryd.func96,Tryd.ntmps96
   go_wp2_with fail
   go_ret
   exact⟨rfl,rfl⟩
  by_cases k3:k=3
  ·subst k3
   rw[if_neg (by decide)]
   rw[if_neg (by decide)]
   rw[if_pos rfl]
   rw[Int.zero_add]
   go_enter Tryd.func96,Tryd.ntmps96
   go_wp2_with fail
   go_ret
   exact⟨rfl,rfl⟩
  by_cases k4:k=4
  ·subst k4
   rw[if_neg (by decide)]
   rw[if_neg (by decide)]
   rw[if_neg (by decide)]
   rw[if_pos rfl]
   go_enter Tryd.func96,Tryd.ntmps96
   go_wp2_with fail
   refine (hp _).mono ?_
   rintro e w1 ⟨rfl,rfl⟩
   go_wp2_with fail
   go_ret
   exact⟨rfl,rfl⟩
  rw[if_neg k1,if_neg k2,if_neg k3,if_neg k4]
  have b1:=beq_no13 k1
  have b2:=beq_no13 k2
  have b3:=beq_no13 k3
  have b4:=beq_no13 k4
  go_enter Tryd.func96,Tryd.ntmps96
  go_wp2_with fail
  go_ret
  exact⟨rfl,rfl⟩
end Go.Proofs.YtcbbcadfolgioaaDoor

namespace Go.Proofs.YtcbbcadfolgioaaDoor.TokMath
def Bytes (O:List Int):Prop:=∀ x∈O,0≤x∧x≤255
end Go.Proofs.YtcbbcadfolgioaaDoor.TokMath

namespace Go.Proofs.YtcbbcadfolgioaaDoor
open Go.RowKit Go.Joins TokMath
def bytesOf (s:ByteArray):List Int:=s.data.toList.map fun b=>(b.toNat:Int)
theorem bytesOf_length (s:ByteArray):(bytesOf s).length=s.size:=by simp [bytesOf]
end Go.Proofs.YtcbbcadfolgioaaDoor

namespace Go.Proofs.YtcbbcadfolgioaaDoor
open Go.RowKit Go.Joins
theorem info_b8:(Tryd.prog.info? 5).map (fun i=>(i.zero,i.size,i.bytes))=some (some (.int .u8 0),1,1):=by kernel_rfl
def b8 (xs:List Int):List Value:=xs.map (Value.int .u8)
theorem b8_app (xs:List Int) (y:Int):b8 (xs ++ [y])=b8 xs ++ [.int .u8 y]:=by simp [b8]
def BR (w:World) (S g n cap:Nat) (xs:List Int):Prop:=w.ownsRow S 5 1 (.slice (some ⟨g,0,none⟩) n cap) n (b8 xs)∧n=xs.length
theorem BR.empty (w:World) (S:Nat) (h:S≤w.heap.size):BR (w.alloc (.cells #[] 5)) S w.heap.size 0 0 []:=
 ⟨⟨rfl,.inr ⟨w.heap.size,0,#[],rfl,h,heap_alloc_new w _,Nat.le_refl _,Nat.zero_le _,rfl,rfl⟩⟩,rfl⟩
theorem BR.text {w:World} {S g n cap:Nat} {xs:List Int} (h:BR w S g n cap xs):(convert 22 9 (.slice (some ⟨g,0,none⟩) n cap)).run Tryd.prog w=.ok (.string (strOfNums xs)) w:=by
 refine run_convert_bytes_arg w 22 5 Tryd.underlying22 Tryd.underlying5 g 0 _ cap xs h.2.symm (fun i hi=>?_) 9 Tryd.underlying9
 have hl:i < xs.length:=by have:=h.2; omega
 rcases h.1.2 with ⟨q,_⟩ | ⟨g',cap',cur,q,_,hg,_,_,_,ht⟩
 ·cases q
 ·cases q
  rw[Nat.zero_add,h.1.cellAt i (by rw [Nat.mul_one]; exact hi)]
  simp[b8,hl]
theorem BR.keep {w w':World} {S g n cap:Nat} {xs:List Int} (h:BR w S g n cap xs) (hb:Below w.heap.size w w'):BR w' S g n cap xs:=by
 refine⟨⟨h.1.1,?_⟩,h.2⟩
 rcases h.1.2 with q | ⟨g',cap',cur,q,h1,hg,h2⟩
 ·exact .inl q
 ·exact .inr ⟨g',cap',cur,q,h1,(hb.block g' (block_lt hg)).trans hg,h2⟩
end Go.Proofs.YtcbbcadfolgioaaDoor

namespace Go.Proofs.YtcbbcadfolgioaaDoor
open Go.RowKit Go.Joins TakeMath FiltMath TokMath
theorem BR.cell {w:World} {S g n cap:Nat} {xs:List Int} (h:BR w S g n cap xs) (j:Nat) (hj:j < n):g < w.heap.size∧w.cell? ⟨g,j,none⟩=some (.int .u8 (xs.getD j 0)):=by
 have hl:j < xs.length:=by have:=h.2; omega
 rcases h.1.2 with ⟨q,_⟩ | ⟨g',cap',cur,q,_,hg,_,_,_,ht⟩
 ·cases q
 ·cases q
  refine⟨block_lt hg,?_⟩
  rw[h.1.cellAt j (by rw [Nat.mul_one]; exact hj)]
  simp[b8,hl]
theorem own_lt {w:World} {S g n cap:Nat} {xs:List Int} (h:BR w S g n cap xs):∀ q,(Value.slice (some ⟨g,0,none⟩) n cap).ownBlock=some q→S≤q:=by
 intro q hq
 rcases h.1.2 with ⟨q1,_⟩ | ⟨_,_,_,q1,q2,_⟩
 ·cases q1
 ·cases q1
  cases hq
  exact q2
set_option maxRecDepth 100000 in
set_option maxHeartbeats 3200000 in
theorem specUnfilter_in (k:Int) (row above:ByteArray) (unit:Nat) (w:World) (h:FiltR k row above (unit:Int)):
  Calls Tryd.prog 69 #[.int .i64 k,.string row,.string above,.int .i64 (unit:Int)] w fun e w'=>e=.returned (.tuple #[.string (unfT k row above unit),.bool true])∧Below w.heap.size w w':=by
 have hok:=fun W=>specFOk_yes k row above (unit:Int) W h
 obtain⟨hk,hu,hs,hn⟩:=h
 have hu':1≤unit∧unit≤8:=by omega
 have HS:=hid_of hs
 have ha:above.size≤200:=by omega
 clear hs
 have H0:Hid (BR (w.alloc (.cells #[] 5)) w.heap.size w.heap.size 0 0 (unfL k (bts row) (bts above) unit 0)∧Below w.heap.size w (w.alloc (.cells #[] 5))):=⟨BR.empty w w.heap.size (Nat.le_refl _),bstart _ _⟩
 go_enter Tryd.func69,Tryd.ntmps69
 go_wp2_with fail
 refine (hok _).mono ?_
 rintro e w1 ⟨rfl,rfl⟩
 clear hok
 go_wp2_with fail
 go_loopg [10,11] (row.size+1) (fun gk v i w'=>∃ (j g9 c9:Nat),j≤row.size∧row.size - j≤gk∧i=.int .i64 (j:Int)∧v=.slice (some ⟨g9,0,none⟩) j c9∧Hid (BR w' w1.heap.size g9 j c9 (unfL k (bts row) (bts above) unit j)∧Below w1.heap.size w1 w'))
 case atStart=>exact⟨0,_,_,Nat.zero_le _,by omega,rfl,rfl,H0⟩
 case round=>
  clear H0
  obtain⟨j,g9,c9,hj,hgk,rfl,rfl,hS⟩:=hrel
  by_cases hlt:j < row.size
  ·have dl:decide ((j:Int) < (row.size:Int))=true:=decide_eq_true (by omega)
   have dl2:decide (j < row.size)=true:=decide_eq_true hlt
   have hal:j < above.size:=by rw [← HS.out]; exact hlt
   have x0:(0:Int)≤(j:Int):=by omega
   have x1:(j:Int) < (row.size:Int):=by omega
   have HBY:Hid ((row[j]'hlt).toNat=byteAt row j):=byteAt_get row j hlt
   obtain⟨X,hX⟩:∃ X:Int,X=((row[j]'hlt).toNat:Int):=⟨_,rfl⟩
   have hX0:0≤X∧X < 256:=by have:(row[j]'hlt).toNat < 256:=UInt8.toNat_lt _; omega
   have hXr:=hX.symm
   have hrow:unit≤j→∃ g,(some ⟨g9,0,none⟩:Option Addr)=some ⟨g,0,none⟩∧j - unit < j∧g < wr.heap.size∧wr.cell? ⟨g,j - unit,none⟩=some (.int .u8 ((fun i=>(unfL k (bts row) (bts above) unit j).getD i 0) (j - unit))):=fun hq=>
    have hc:=hS.out.1.cell (j - unit) (by omega)
    ⟨g9,rfl,by omega,hc.1,hc.2⟩
   have hsay:=fun W (hW:W=wr.drew)=>specSays k (some ⟨g9,0,none⟩) j c9 (fun i=>(unfL k (bts row) (bts above) unit j).getD i 0) above unit j W hu' hal ha (fun i=>getD_byte13 (unfL_byte _ _ _ _ _) i) (by rw [hW]; exact hrow)
   obtain⟨Y,hY⟩:∃ Y,Y=says k (fun i=>(unfL k (bts row) (bts above) unit j).getD i 0) (bts above) unit j:=⟨_,rfl⟩
   have hY0:0≤Y∧Y < 256:=by rw [hY]; exact says_byte k (fun i=>getD_byte13 (unfL_byte _ _ _ _ _) i) (bts_byte above) unit j
   rw[← hY] at hsay
   have HN:Hid (unfL k (bts row) (bts above) unit (j+1)=unfL k (bts row) (bts above) unit j ++ [(X+Y) % 256]):=by
    show _=_
    rw[unfL_next,← hY,hX,HBY.out]
    rfl
   have v4:IntKind.i64.wrap X=X:=by rw [IntKind.wrap_i64]; omega
   have v5:IntKind.i64.wrap (X+256)=X+256:=by rw [IntKind.wrap_i64]; omega
   have v6:IntKind.i64.wrap (X+256 - Y)=X+256 - Y:=by rw [IntKind.wrap_i64]; omega
   have v7:IntKind.i64.wrap (X+Y)=X+Y:=by rw [IntKind.wrap_i64]; omega
   have HBL:=hid_of hS.out.2
   have HBR:=hid_of hS.out.1
   obtain⟨Z,hZ⟩:∃ Z,Z=(X+Y) % 256:=⟨_,rfl⟩
   rw[← hZ] at HN
   have u8w:IntKind.u8.wrap (X+Y)=Z:=by show (X+Y) % 256=Z; rw [hZ]
   have hZ0:0≤Z∧Z < 256:=by omega
   clear hX hY hS hZ
   go_wp2_with fail
   refine wp_region_held (S:=fun _=>True) (by kernel_rfl) ?_
   show wpAnyH _ _ _ _ _ _ _ _ wr.drew
   refine wpAnyH_take (i:=0) (v:=.slice (some ⟨g9,0,none⟩) j c9) rfl (by kernel_rfl) (by kernel_rfl) (by kernel_rfl) (fun _ _ _ h=>h) (Or.inl ⟨by rfl,?_⟩) trivial ?_
   ·intro w' _
    go_simp
   simp only [Act.put,List.getElem_toArray,List.getElem_cons_zero,List.setIfInBounds_toArray,List.set_cons_zero,List.set_cons_succ]
   refine wpAnyH_take (i:=1) (v:=.string row) rfl (by kernel_rfl) (by kernel_rfl) (by kernel_rfl) (fun _ _ _ h=>h) (Or.inl ⟨by rfl,?_⟩) trivial ?_
   ·intro w' _
    go_simp
   simp only [Act.put,List.getElem_toArray,List.getElem_cons_zero,List.getElem_cons_succ,List.setIfInBounds_toArray,List.set_cons_zero,List.set_cons_succ]
   refine wpAnyH_take (i:=2) (v:=.int .i64 (j:Int)) rfl (by kernel_rfl) (by kernel_rfl) (by kernel_rfl) (fun _ _ _ h=>h) (Or.inl ⟨by rfl,?_⟩) trivial ?_
   ·intro w' _
    go_simp
   simp only [Act.put,List.getElem_toArray,List.getElem_cons_zero,List.getElem_cons_succ,List.setIfInBounds_toArray,List.set_cons_zero,List.set_cons_succ]
   refine wpAnyH_take (i:=3) (v:=.int .u8 ((row[j]'hlt).toNat:Int)) rfl (by kernel_rfl) (by kernel_rfl) (by kernel_rfl) (fun _ _ _ h=>h) (Or.inl ⟨by rfl,?_⟩) trivial ?_
   ·intro w' _
    go_simp
   simp only [Act.put,List.getElem_toArray,List.getElem_cons_zero,List.getElem_cons_succ,List.setIfInBounds_toArray,List.set_cons_zero,List.set_cons_succ]
   refine wpAnyH_take (i:=4) (v:=.int .i64 X) rfl (by kernel_rfl) (by kernel_rfl) (by kernel_rfl) (fun _ _ _ h=>h) (Or.inl ⟨by rfl,?_⟩) trivial ?_
   ·intro w' _
    go_simp
   simp only [Act.put,List.getElem_toArray,List.getElem_cons_zero,List.getElem_cons_succ,List.setIfInBounds_toArray,List.set_cons_zero,List.set_cons_succ]
   refine wpAnyH_take (i:=5) (v:=.int .i64 k) rfl (by kernel_rfl) (by kernel_rfl) (by kernel_rfl) (fun _ _ _ h=>h) (Or.inl ⟨by rfl,?_⟩) trivial ?_
   ·intro w' _
    go_simp
   simp only [Act.put,List.getElem_toArray,List.getElem_cons_zero,List.getElem_cons_succ,List.setIfInBounds_toArray,List.set_cons_zero,List.set_cons_succ]
   refine wpAnyH_take (i:=6) (v:=.slice (some ⟨g9,0,none⟩) j c9) rfl (by kernel_rfl) (by kernel_rfl) (by kernel_rfl) (fun _ _ _ h=>h) (Or.inl ⟨by rfl,?_⟩) trivial ?_
   ·intro w' _
    go_simp
   simp only [Act.put,List.getElem_toArray,List.getElem_cons_zero,List.getElem_cons_succ,List.setIfInBounds_toArray,List.set_cons_zero,List.set_cons_succ]
   refine wpAnyH_take (i:=7) (v:=.string above) rfl (by kernel_rfl) (by kernel_rfl) (by kernel_rfl) (fun _ _ _ h=>h) (Or.inl ⟨by rfl,?_⟩) trivial ?_
   ·intro w' _
    go_simp
   simp only [Act.put,List.getElem_toArray,List.getElem_cons_zero,List.getElem_cons_succ,List.setIfInBounds_toArray,List.set_cons_zero,List.set_cons_succ]
   refine wpAnyH_take (i:=8) (v:=.int .i64 (unit:Int)) rfl (by kernel_rfl) (by kernel_rfl) (by kernel_rfl) (fun _ _ _ h=>h) (Or.inl ⟨by rfl,?_⟩) trivial ?_
   ·intro w' _
    go_simp
   simp only [Act.put,List.getElem_toArray,List.getElem_cons_zero,List.getElem_cons_succ,List.setIfInBounds_toArray,List.set_cons_zero,List.set_cons_succ]
   refine wpAnyH_take (i:=9) (v:=.int .i64 (j:Int)) rfl (by kernel_rfl) (by kernel_rfl) (by kernel_rfl) (fun _ _ _ h=>h) (Or.inl ⟨by rfl,?_⟩) trivial ?_
   ·intro w' _
    go_simp
   simp only [Act.put,List.getElem_toArray,List.getElem_cons_zero,List.getElem_cons_succ,List.setIfInBounds_toArray,List.set_cons_zero,List.set_cons_succ]
   refine wpAnyH_ready (rs:=[10]) (by kernel_rfl) (by simp) ?_
   refine AllReadyH.cons rfl (fun K hK=>?_) AllReadyH.nil
   refine if_wanted (wanted_none rfl) ?_
   simp only [List.getElem_toArray,List.getElem_cons_zero,List.getElem_cons_succ]
   go_simp
   refine (hsay _ rfl).mono ?_
   rintro e w4 ⟨rfl,rfl⟩
   refine hK.out _ _ trivial (fun _=>?_)
   clear hK K
   refine wpAnyH_take (i:=11) (v:=.int .i64 (X+Y)) rfl (by kernel_rfl) (by kernel_rfl) (by kernel_rfl) (fun _ _ _ h=>h) (Or.inl ⟨by rfl,?_⟩) trivial ?_
   ·intro w' _
    go_simp
   simp only [Act.put,List.getElem_toArray,List.getElem_cons_zero,List.getElem_cons_succ,List.setIfInBounds_toArray,List.set_cons_zero,List.set_cons_succ]
   refine wpAnyH_take (i:=12) (v:=.int .u8 Z) rfl (by kernel_rfl) (by kernel_rfl) (by kernel_rfl) (fun _ _ _ h=>h) (Or.inl ⟨by rfl,?_⟩) trivial ?_
   ·intro w' _
    go_simp
   simp only [Act.put,List.getElem_toArray,List.getElem_cons_zero,List.getElem_cons_succ,List.setIfInBounds_toArray,List.set_cons_zero,List.set_cons_succ]
   have HBQ:Hid (Below w1.heap.size w1 wr.drew):=bdraws HBL.out _
   have HRQ:Hid (BR wr.drew w1.heap.size g9 j c9 (unfL k (bts row) (bts above) unit j)):=HBR.out.keep (bdraws (Below.refl _ _) _)
   refine wpAnyH_ready (rs:=[13]) (by kernel_rfl) (by simp) ?_
   refine AllReadyH.cons rfl (fun K hK=>?_) AllReadyH.nil
   refine if_wanted (wanted_none rfl) ?_
   simp only [List.getElem_toArray,List.getElem_cons_zero,List.getElem_cons_succ]
   go_simp
   refine hK.out _ _ trivial (fun _=>?_)
   clear hK K
   refine wpAnyH_ready (rs:=[14]) (by kernel_rfl) (by simp) ?_
   refine AllReadyH.cons rfl (fun K hK=>?_) AllReadyH.nil
   refine if_wanted (wanted_none rfl) ?_
   simp only [List.getElem_toArray,List.getElem_cons_zero,List.getElem_cons_succ]
   obtain⟨i0,hi0,hz0,hz1,hz2⟩:=info_parts info_b8
   refine wp_append_lies _ (.tmp 25) (.tmp 38) 22 rfl w1.heap.size 5 i0 _ 1 1 Tryd.underlying22 hi0 hz0 hz1 hz2 rfl (by omega) (.slice (some ⟨g9,0,none⟩) j c9) j (b8 (unfL k (bts row) (bts above) unit j)) (by rfl) (by exact World.ownsRow.alloc HRQ.out.1 _) ⟨wr.drew.heap.size,0,none⟩ 1 1 [.int .u8 Z] (by rfl) rfl (by exact World.news_of_block (heap_alloc_new wr.drew _)) (by simp [Value.oneCell']) (by omega) (by unfold maxLen; omega) (by omega) (by have:=HBQ.out.size; show w1.heap.size≤(World.alloc wr.drew _).heap.size; simp; (try simp at this); omega) _ rfl ?_
   intro g' cap' w3 y1 y2 y3 y4
   have HS6:Hid (BR w3 w1.heap.size g' (j+1) cap' (unfL k (bts row) (bts above) unit (j+1))∧Below w1.heap.size w1 w3):=by
    refine⟨⟨?_,by rw [HN.out,List.length_append,← HRQ.out.2]; rfl⟩,(bal HBQ.out _).grown y2 (by have:=HBQ.out.size; (try simp at this); simp; omega) (own_lt HRQ.out)⟩
    rw[HN.out,b8_app]
    exact y1
   clear y1 y2 y3 y4
   refine hK.out _ _ trivial (fun _=>?_)
   clear hK K
   refine wpAnyH_take (i:=15) (v:=.slice (some ⟨g',0,none⟩) (j+1) cap') rfl (by kernel_rfl) (by kernel_rfl) (by kernel_rfl) (fun _ _ _ h=>h) (Or.inl ⟨by rfl,?_⟩) trivial ?_
   ·intro w' _
    go_simp
   simp only [Act.put,List.getElem_toArray,List.getElem_cons_zero,List.getElem_cons_succ,List.setIfInBounds_toArray,List.set_cons_zero,List.set_cons_succ]
   refine wpAnyH_done (by kernel_rfl) ?_ _
   go_wp2_with fail
   go_roundg (row.size - (j+1))
   case measure=>omega
   case rel=>exact⟨j+1,g',cap',by omega,Nat.le_refl _,by go_num,rfl,HS6⟩
  ·obtain rfl:j=row.size:=by omega
   have dl:decide ((row.size:Int) < (row.size:Int))=false:=decide_eq_false (by omega)
   have hcv:=hS.out.1.text
   have HBE:=hid_of hS.out.2
   clear hS
   go_wp2_with fail
   refine bodyPost_ret (v:=.tuple #[.string (strOfNums (unfL k (bts row) (bts above) unit row.size)),.bool true]) ?_ rfl ⟨rfl,HBE.out⟩
   simp[results,Tryd.results69,go_sem]
theorem specUnfilter_out (k:Int) (row above:ByteArray) (unit:Int) (w:World) (h:¬ FiltR k row above unit) (h1:row.size≤1048576):
  Calls Tryd.prog 69 #[.int .i64 k,.string row,.string above,.int .i64 unit] w fun e w'=>e=.returned (.tuple #[.string ⟨#[]⟩,.bool false])∧w'=w:=by
 have hok:=fun W=>specFOk_no k row above unit W h h1
 clear h
 go_enter Tryd.func69,Tryd.ntmps69
 go_wp2_with fail
 refine (hok _).mono ?_
 rintro e w1 ⟨rfl,rfl⟩
 go_wp2_with fail
 refine bodyPost_ret (v:=.tuple #[.string ⟨#[]⟩,.bool false]) ?_ rfl ⟨rfl,rfl⟩
 simp[results,Tryd.results69,go_sem]
end Go.Proofs.YtcbbcadfolgioaaDoor

namespace Go.Proofs.YtcbbcadfolgioaaDoor
open Go.RowKit Go.Joins TakeMath FiltMath
theorem specUnfilter (k:Int) (row above:ByteArray) (unit:Int) (w:World) (h1:row.size≤1048576):Calls Tryd.prog 69 #[.int .i64 k,.string row,.string above,.int .i64 unit] w fun e w'=>e=.returned (.tuple #[.string (unfV k row above unit),.bool (decide (FiltR k row above unit))])∧Below w.heap.size w w':=by
 unfold unfV
 by_cases h:FiltR k row above unit
 ·rw[if_pos h,decide_eq_true h]
  obtain⟨u,hu⟩:∃ u:Nat,unit=(u:Int):=⟨unit.toNat,by have:=h.2.1; omega⟩
  subst hu
  exact specUnfilter_in k row above u w h
 ·rw[if_neg h,decide_eq_false h]
  refine (specUnfilter_out k row above unit w h h1).mono ?_
  rintro e w' ⟨rfl,rfl⟩
  exact⟨rfl,Below.refl _ _⟩
end Go.Proofs.YtcbbcadfolgioaaDoor
