/-
  Texts of the proof, put together.
-/
import Derived.Test.YtcbbcadfolgioaaDoorPe07
import Derived.Test.YtcbbcadfolgioaaDoorPe08
import Derived.Test.YtcbbcadfolgioaaDoorPe10
namespace Go.Proofs.YtcbbcadfolgioaaDoor
section
open Go.RowKit Go.Joins TakeMath FiltMath TokMath
theorem BR.cell {w:World} {S g n cap:Nat} {xs:List Int} (h:BR w S g n cap xs) (j:Nat) (hj:j < n):g < w.heap.size∧w.cell? ⟨g,j,none⟩=some (.int .u8 (xs.getD j 0)):=by
 have hl:j < xs.length:=by have:=h.2; omega
 rcases h.1.2 with ⟨q,_⟩ | ⟨g',cap',cur,q,_,hg,_,_,_,ht⟩
 ·cases q
 ·cases q
  refine⟨block_lt hg,?_⟩
  rw[h.1.cellAt j (by rw [Nat.mul_one]; exact hj)]
  simp[b8,hl]
theorem bts_of (s:ByteArray) (i:Nat) (h:i < s.size):(bytesOf s).getD i 0=bts s i:=by
 unfold bts
 rw[← byteAt_get s i h]
 have h':i < s.data.size:=h
 simp[bytesOf,List.getD_eq_getElem?_getD,Array.getElem?_eq_getElem h']
 rfl
theorem own_lt {w:World} {S g n cap:Nat} {xs:List Int} (h:BR w S g n cap xs):∀ q,(Value.slice (some ⟨g,0,none⟩) n cap).ownBlock=some q→S≤q:=by
 intro q hq
 rcases h.1.2 with ⟨q1,_⟩ | ⟨_,_,_,q1,q2,_⟩
 ·cases q1
 ·cases q1
  cases hq
  exact q2
set_option maxRecDepth 100000 in
set_option maxHeartbeats 3200000 in
theorem specFilter_in (k:Int) (row above:ByteArray) (unit:Nat) (w:World) (h:FiltR k row above (unit:Int)):
  Calls Tryd.prog 94 #[.int .i64 k,.string row,.string above,.int .i64 (unit:Int)] w fun e w'=>e=.returned (.tuple #[.string (filtT k row above unit),.bool true])∧Below w.heap.size w w':=by
 have hok:=fun W=>specFOk_yes k row above (unit:Int) W h
 obtain⟨hk,hu,hs,hn⟩:=h
 have hu':1≤unit∧unit≤8:=by omega
 have HS:=hid_of hs
 have ha:above.size≤200:=by omega
 clear hs
 have H0:Hid (BR (w.alloc (.cells #[] 5)) w.heap.size w.heap.size 0 0 (filtL k (bts row) (bts above) unit 0)∧Below w.heap.size w (w.alloc (.cells #[] 5))):=⟨BR.empty w w.heap.size (Nat.le_refl _),bstart _ _⟩
 go_enter Tryd.func94,Tryd.ntmps94
 go_wp2_with fail
 refine (hok _).mono ?_
 rintro e w1 ⟨rfl,rfl⟩
 clear hok
 go_wp2_with fail
 go_loopg [10,11] (row.size+1) (fun gk v i w'=>∃ (j g9 c9:Nat),j≤row.size∧row.size - j≤gk∧i=.int .i64 (j:Int)∧v=.slice (some ⟨g9,0,none⟩) j c9∧Hid (BR w' w1.heap.size g9 j c9 (filtL k (bts row) (bts above) unit j)∧Below w1.heap.size w1 w'))
 case atStart=>exact⟨0,_,_,Nat.zero_le _,by omega,rfl,rfl,H0⟩
 case round=>
  clear H0
  obtain⟨j,g9,c9,hj,hgk,rfl,rfl,hS⟩:=hrel
  by_cases hlt:j < row.size
  ·have dl:decide ((j:Int) < (row.size:Int))=true:=decide_eq_true (by omega)
   have dl2:decide (j < row.size)=true:=decide_eq_true hlt
   have hal:j < above.size:=by rw [← HS.out]; exact hlt
   have x0:(0:Int)≤(j:Int):=by omega
   have x1:(j:Int) < (row.size:Int):=by omega
   have HBY:Hid ((row[j]'hlt).toNat=byteAt row j):=byteAt_get row j hlt
   obtain⟨X,hX⟩:∃ X:Int,X=((row[j]'hlt).toNat:Int):=⟨_,rfl⟩
   have hX0:0≤X∧X < 256:=by have:(row[j]'hlt).toNat < 256:=UInt8.toNat_lt _; omega
   have hXr:=hX.symm
   obtain⟨W7,cz,hcv,hO7,hB7⟩:=bown_of_text wr.drew row (by omega)
   have hrow:unit≤j→∃ g,(some ⟨wr.drew.heap.size,0,none⟩:Option Addr)=some ⟨g,0,none⟩∧j - unit < row.size∧g < W7.heap.size∧W7.cell? ⟨g,j - unit,none⟩=some (.int .u8 (bts row (j - unit))):=fun _=>by
    refine⟨_,rfl,by omega,hO7.lt,?_⟩
    rw[hO7.cell (j - unit) (by omega),bts_of _ _ (by omega)]
   have hsay:=specSays k (some ⟨wr.drew.heap.size,0,none⟩) row.size cz (bts row) above unit j W7 hu' hal ha (bts_byte row) hrow
   obtain⟨Y,hY⟩:∃ Y,Y=says k (bts row) (bts above) unit j:=⟨_,rfl⟩
   have hY0:0≤Y∧Y < 256:=by rw [hY]; exact says_byte k (bts_byte row) (bts_byte above) unit j
   rw[← hY] at hsay
   have HN:Hid (filtL k (bts row) (bts above) unit (j+1)=filtL k (bts row) (bts above) unit j ++ [(X+256 - Y) % 256]):=by
    show _=_
    rw[filtL_next]
    unfold filtB
    rw[← hY,hX,HBY.out]
    rfl
   have HB7:=hid_of hB7
   clear hO7 hrow hB7
   have v4:IntKind.i64.wrap X=X:=by rw [IntKind.wrap_i64]; omega
   have v5:IntKind.i64.wrap (X+256)=X+256:=by rw [IntKind.wrap_i64]; omega
   have v6:IntKind.i64.wrap (X+256 - Y)=X+256 - Y:=by rw [IntKind.wrap_i64]; omega
   have v7:IntKind.i64.wrap (X+Y)=X+Y:=by rw [IntKind.wrap_i64]; omega
   have HBL:=hid_of hS.out.2
   have HBR:=hid_of hS.out.1
   obtain⟨Z,hZ⟩:∃ Z,Z=(X+256 - Y) % 256:=⟨_,rfl⟩
   rw[← hZ] at HN
   have u8w:IntKind.u8.wrap (X+256 - Y)=Z:=by show (X+256 - Y) % 256=Z; rw [hZ]
   have hZ0:0≤Z∧Z < 256:=by omega
   clear hX hY hS hZ
   go_wp2_with fail
   refine wp_region_held (S:=fun _=>True) (by kernel_rfl) ?_
   show wpAnyH _ _ _ _ _ _ _ _ wr.drew
   refine wpAnyH_take (i:=0) (v:=.slice (some ⟨g9,0,none⟩) j c9) rfl (by kernel_rfl) (by kernel_rfl) (by kernel_rfl) (fun _ _ _ h=>h) (Or.inl ⟨by rfl,?_⟩) trivial ?_
   ·intro w' _
    go_simp
   simp only [Act.put,List.getElem_toArray,List.getElem_cons_zero,List.setIfInBounds_toArray,List.set_cons_zero,List.set_cons_succ]
   refine wpAnyH_take (i:=1) (v:=.string row) rfl (by kernel_rfl) (by kernel_rfl) (by kernel_rfl) (fun _ _ _ h=>h) (Or.inl ⟨by rfl,?_⟩) trivial ?_
   ·intro w' _
    go_simp
   simp only [Act.put,List.getElem_toArray,List.getElem_cons_zero,List.getElem_cons_succ,List.setIfInBounds_toArray,List.set_cons_zero,List.set_cons_succ]
   refine wpAnyH_take (i:=2) (v:=.int .i64 (j:Int)) rfl (by kernel_rfl) (by kernel_rfl) (by kernel_rfl) (fun _ _ _ h=>h) (Or.inl ⟨by rfl,?_⟩) trivial ?_
   ·intro w' _
    go_simp
   simp only [Act.put,List.getElem_toArray,List.getElem_cons_zero,List.getElem_cons_succ,List.setIfInBounds_toArray,List.set_cons_zero,List.set_cons_succ]
   refine wpAnyH_take (i:=3) (v:=.int .u8 ((row[j]'hlt).toNat:Int)) rfl (by kernel_rfl) (by kernel_rfl) (by kernel_rfl) (fun _ _ _ h=>h) (Or.inl ⟨by rfl,?_⟩) trivial ?_
   ·intro w' _
    go_simp
   simp only [Act.put,List.getElem_toArray,List.getElem_cons_zero,List.getElem_cons_succ,List.setIfInBounds_toArray,List.set_cons_zero,List.set_cons_succ]
   refine wpAnyH_take (i:=4) (v:=.int .i64 X) rfl (by kernel_rfl) (by kernel_rfl) (by kernel_rfl) (fun _ _ _ h=>h) (Or.inl ⟨by rfl,?_⟩) trivial ?_
   ·intro w' _
    go_simp
   simp only [Act.put,List.getElem_toArray,List.getElem_cons_zero,List.getElem_cons_succ,List.setIfInBounds_toArray,List.set_cons_zero,List.set_cons_succ]
   refine wpAnyH_take (i:=5) (v:=.int .i64 (X+256)) rfl (by kernel_rfl) (by kernel_rfl) (by kernel_rfl) (fun _ _ _ h=>h) (Or.inl ⟨by rfl,?_⟩) trivial ?_
   ·intro w' _
    go_simp
   simp only [Act.put,List.getElem_toArray,List.getElem_cons_zero,List.getElem_cons_succ,List.setIfInBounds_toArray,List.set_cons_zero,List.set_cons_succ]
   refine wpAnyH_take (i:=6) (v:=.int .i64 k) rfl (by kernel_rfl) (by kernel_rfl) (by kernel_rfl) (fun _ _ _ h=>h) (Or.inl ⟨by rfl,?_⟩) trivial ?_
   ·intro w' _
    go_simp
   simp only [Act.put,List.getElem_toArray,List.getElem_cons_zero,List.getElem_cons_succ,List.setIfInBounds_toArray,List.set_cons_zero,List.set_cons_succ]
   refine wpAnyH_take (i:=7) (v:=.string row) rfl (by kernel_rfl) (by kernel_rfl) (by kernel_rfl) (fun _ _ _ h=>h) (Or.inl ⟨by rfl,?_⟩) trivial ?_
   ·intro w' _
    go_simp
   simp only [Act.put,List.getElem_toArray,List.getElem_cons_zero,List.getElem_cons_succ,List.setIfInBounds_toArray,List.set_cons_zero,List.set_cons_succ]
   refine wpAnyH_take (i:=9) (v:=.string above) rfl (by kernel_rfl) (by kernel_rfl) (by kernel_rfl) (fun _ _ _ h=>h) (Or.inl ⟨by rfl,?_⟩) trivial ?_
   ·intro w' _
    go_simp
   simp only [Act.put,List.getElem_toArray,List.getElem_cons_zero,List.getElem_cons_succ,List.setIfInBounds_toArray,List.set_cons_zero,List.set_cons_succ]
   refine wpAnyH_take (i:=10) (v:=.int .i64 (unit:Int)) rfl (by kernel_rfl) (by kernel_rfl) (by kernel_rfl) (fun _ _ _ h=>h) (Or.inl ⟨by rfl,?_⟩) trivial ?_
   ·intro w' _
    go_simp
   simp only [Act.put,List.getElem_toArray,List.getElem_cons_zero,List.getElem_cons_succ,List.setIfInBounds_toArray,List.set_cons_zero,List.set_cons_succ]
   refine wpAnyH_take (i:=11) (v:=.int .i64 (j:Int)) rfl (by kernel_rfl) (by kernel_rfl) (by kernel_rfl) (fun _ _ _ h=>h) (Or.inl ⟨by rfl,?_⟩) trivial ?_
   ·intro w' _
    go_simp
   simp only [Act.put,List.getElem_toArray,List.getElem_cons_zero,List.getElem_cons_succ,List.setIfInBounds_toArray,List.set_cons_zero,List.set_cons_succ]
   refine wpAnyH_ready (rs:=[8]) (by kernel_rfl) (by simp) ?_
   refine AllReadyH.cons rfl (fun K hK=>?_) AllReadyH.nil
   refine if_wanted (wanted_none rfl) ?_
   simp only [List.getElem_toArray,List.getElem_cons_zero,List.getElem_cons_succ]
   go_simp
   refine hK.out _ _ trivial (fun _=>?_)
   clear hK K
   refine wpAnyH_ready (rs:=[12]) (by kernel_rfl) (by simp) ?_
   refine AllReadyH.cons rfl (fun K hK=>?_) AllReadyH.nil
   refine if_wanted (wanted_none rfl) ?_
   simp only [List.getElem_toArray,List.getElem_cons_zero,List.getElem_cons_succ]
   go_simp
   refine hsay.mono ?_
   rintro e w4 ⟨rfl,rfl⟩
   refine hK.out _ _ trivial (fun _=>?_)
   clear hK K
   refine wpAnyH_take (i:=13) (v:=.int .i64 (X+256 - Y)) rfl (by kernel_rfl) (by kernel_rfl) (by kernel_rfl) (fun _ _ _ h=>h) (Or.inl ⟨by rfl,?_⟩) trivial ?_
   ·intro w' _
    go_simp
   simp only [Act.put,List.getElem_toArray,List.getElem_cons_zero,List.getElem_cons_succ,List.setIfInBounds_toArray,List.set_cons_zero,List.set_cons_succ]
   refine wpAnyH_take (i:=14) (v:=.int .u8 Z) rfl (by kernel_rfl) (by kernel_rfl) (by kernel_rfl) (fun _ _ _ h=>h) (Or.inl ⟨by rfl,?_⟩) trivial ?_
   ·intro w' _
    go_simp
   simp only [Act.put,List.getElem_toArray,List.getElem_cons_zero,List.getElem_cons_succ,List.setIfInBounds_toArray,List.set_cons_zero,List.set_cons_succ]
   have HBQ:Hid (Below w1.heap.size w1 w4):=bnext (bdraws HBL.out _) HB7.out
   have HRQ:Hid (BR w4 w1.heap.size g9 j c9 (filtL k (bts row) (bts above) unit j)):=HBR.out.keep (bnext (bdraws (Below.refl _ _) _) HB7.out)
   refine wpAnyH_ready (rs:=[15]) (by kernel_rfl) (by simp) ?_
   refine AllReadyH.cons rfl (fun K hK=>?_) AllReadyH.nil
   refine if_wanted (wanted_none rfl) ?_
   simp only [List.getElem_toArray,List.getElem_cons_zero,List.getElem_cons_succ]
   go_simp
   refine hK.out _ _ trivial (fun _=>?_)
   clear hK K
   refine wpAnyH_ready (rs:=[16]) (by kernel_rfl) (by simp) ?_
   refine AllReadyH.cons rfl (fun K hK=>?_) AllReadyH.nil
   refine if_wanted (wanted_none rfl) ?_
   simp only [List.getElem_toArray,List.getElem_cons_zero,List.getElem_cons_succ]
   obtain⟨i0,hi0,hz0,hz1,hz2⟩:=info_parts info_b8
   refine wp_append_lies _ (.tmp 25) (.tmp 40) 22 rfl w1.heap.size 5 i0 _ 1 1 Tryd.underlying22 hi0 hz0 hz1 hz2 rfl (by omega) (.slice (some ⟨g9,0,none⟩) j c9) j (b8 (filtL k (bts row) (bts above) unit j)) (by rfl) (by exact World.ownsRow.alloc HRQ.out.1 _) ⟨w4.heap.size,0,none⟩ 1 1 [.int .u8 Z] (by rfl) rfl (by exact World.news_of_block (heap_alloc_new w4 _)) (by simp [Value.oneCell']) (by omega) (by unfold maxLen; omega) (by omega) (by have:=HBQ.out.size; show w1.heap.size≤(World.alloc w4 _).heap.size; simp; (try simp at this); omega) _ rfl ?_
   intro g' cap' w3 y1 y2 y3 y4
   have HS6:Hid (BR w3 w1.heap.size g' (j+1) cap' (filtL k (bts row) (bts above) unit (j+1))∧Below w1.heap.size w1 w3):=by
    refine⟨⟨?_,by rw [HN.out,List.length_append,← HRQ.out.2]; rfl⟩,(bal HBQ.out _).grown y2 (by have:=HBQ.out.size; (try simp at this); simp; omega) (own_lt HRQ.out)⟩
    rw[HN.out,b8_app]
    exact y1
   clear y1 y2 y3 y4
   refine hK.out _ _ trivial (fun _=>?_)
   clear hK K
   refine wpAnyH_take (i:=17) (v:=.slice (some ⟨g',0,none⟩) (j+1) cap') rfl (by kernel_rfl) (by kernel_rfl) (by kernel_rfl) (fun _ _ _ h=>h) (Or.inl ⟨by rfl,?_⟩) trivial ?_
   ·intro w' _
    go_simp
   simp only [Act.put,List.getElem_toArray,List.getElem_cons_zero,List.getElem_cons_succ,List.setIfInBounds_toArray,List.set_cons_zero,List.set_cons_succ]
   refine wpAnyH_done (by kernel_rfl) ?_ _
   go_wp2_with fail
   go_roundg (row.size - (j+1))
   case measure=>omega
   case rel=>exact⟨j+1,g',cap',by omega,Nat.le_refl _,by go_num,rfl,HS6⟩
  ·obtain rfl:j=row.size:=by omega
   have dl:decide ((row.size:Int) < (row.size:Int))=false:=decide_eq_false (by omega)
   have hcv:=hS.out.1.text
   have HBE:=hid_of hS.out.2
   clear hS
   go_wp2_with fail
   refine bodyPost_ret (v:=.tuple #[.string (strOfNums (filtL k (bts row) (bts above) unit row.size)),.bool true]) ?_ rfl ⟨rfl,HBE.out⟩
   simp[results,Tryd.results94,go_sem]
theorem specFilter_out (k:Int) (row above:ByteArray) (unit:Int) (w:World) (h:¬ FiltR k row above unit) (h1:row.size≤1048576):
  Calls Tryd.prog 94 #[.int .i64 k,.string row,.string above,.int .i64 unit] w fun e w'=>e=.returned (.tuple #[.string ⟨#[]⟩,.bool false])∧w'=w:=by
 have hok:=fun W=>specFOk_no k row above unit W h h1
 clear h
 go_enter Tryd.func94,Tryd.ntmps94
 go_wp2_with fail
 refine (hok _).mono ?_
 rintro e w1 ⟨rfl,rfl⟩
 go_wp2_with fail
 refine bodyPost_ret (v:=.tuple #[.string ⟨#[]⟩,.bool false]) ?_ rfl ⟨rfl,rfl⟩
 simp[results,Tryd.results94,go_sem]
end
section
open Go.RowKit Go.Joins TakeMath FiltMath
theorem specFilter (k:Int) (row above:ByteArray) (unit:Int) (w:World) (h1:row.size≤1048576):Calls Tryd.prog 94 #[.int .i64 k,.string row,.string above,.int .i64 unit] w fun e w'=>e=.returned (.tuple #[.string (filtV k row above unit),.bool (decide (FiltR k row above unit))])∧Below w.heap.size w w':=by
 unfold filtV
 by_cases h:FiltR k row above unit
 ·rw[if_pos h,decide_eq_true h]
  obtain⟨u,hu⟩:∃ u:Nat,unit=(u:Int):=⟨unit.toNat,by have:=h.2.1; omega⟩
  subst hu
  exact specFilter_in k row above u w h
 ·rw[if_neg h,decide_eq_false h]
  refine (specFilter_out k row above unit w h h1).mono ?_
  rintro e w' ⟨rfl,rfl⟩
  exact⟨rfl,Below.refl _ _⟩
set_option maxHeartbeats 1600000 in
theorem specBestF_in (row above:ByteArray) (unit:Nat) (w:World) (h:FiltR 0 row above (unit:Int)):Calls Tryd.prog 93 #[.string row,.string above,.int .i64 (unit:Int)] w fun e w'=>e=.returned (.tuple #[.int .i64 (least (wk row above unit) 4:Nat),.bool true])∧Below w.heap.size w w':=by
 have hs:=h.2.2.2
 have HF:=hid_of h
 have hwr:=fun k=>wk_range row above unit k hs
 clear h
 go_enter Tryd.func93,Tryd.ntmps93
 go_wp2_with fail
 go_loopg [8,9,10] 6 (fun gk b m i w'=>∃ (j:Nat) (B:Nat) (M:Int),j≤5∧5 - j≤gk∧i=.int .i64 (j:Int)∧b=.int .i64 (B:Int)∧m=.int .i64 M∧((j=0∧B=0∧M=-1)∨(1≤j∧0≤M∧M≤25600∧B≤4))∧Hid ((∀ p,j=p+1→B=least (wk row above unit) p∧M=wk row above unit B)∧Below w.heap.size w w'))
 case atStart=>exact⟨0,0,-1,by omega,by omega,rfl,rfl,rfl,.inl ⟨rfl,rfl,rfl⟩,fun p hp=>by omega,Below.refl _ _⟩
 case round=>
  obtain⟨j,B,M,hj,hgk,rfl,rfl,rfl,hM,hS⟩:=hrel
  by_cases hlt:j < 5
  ·have dl:decide ((j:Int) < 5)=true:=decide_eq_true (by omega)
   have dl2:decide (j < 5)=true:=decide_eq_true hlt
   have hfi:=fun W=>specFilter_in (j:Int) row above unit W (HF.out.kind (by omega))
   have hwe:=fun W=>specWeight (filtT (j:Int) row above unit) W (by rw [filtT_size]; omega)
   have HW:Hid (weight (filtT (j:Int) row above unit)=wk row above unit j):=rfl
   have hr:=hwr j
   rw[← HW.out] at hr
   obtain⟨X,hX⟩:∃ X,X=weight (filtT (j:Int) row above unit):=⟨_,rfl⟩
   rw[← hX] at hwe hr HW
   generalize filtT (j:Int) row above unit=T at *
   clear hX hwr
   rcases hM with ⟨rfl,rfl,rfl⟩ | ⟨hj1,hM0,hM1,hB4⟩
   ·have HN:Hid ((∀ p,1=p+1→0=least (wk row above unit) p∧X=wk row above unit 0)∧Below w.heap.size w wr):=⟨fun p hp=>by
     obtain rfl:p=0:=by omega
     exact⟨rfl,HW.out⟩,hS.out.2⟩
    clear hS
    go_wp2_with fail
    refine (hfi _).mono ?_
    rintro e w1 ⟨rfl,hB1⟩
    have HB1:=hid_of (bnext HN.out.2 hB1)
    clear hB1
    go_wp2_with fail
    refine (hwe _).mono ?_
    rintro e w2 ⟨rfl,rfl⟩
    go_wp2_with fail
    go_roundg 4
    case measure=>omega
    case rel=>exact⟨1,0,X,by omega,by omega,rfl,rfl,rfl,.inr ⟨by omega,hr.1,hr.2,by omega⟩,HN.out.1,HB1.out⟩
   ·obtain⟨p,rfl⟩:∃ p,j=p+1:=⟨j - 1,by omega⟩
    have HPQ:Hid (B=least (wk row above unit) p∧M=wk row above unit B):=hS.out.1 p rfl
    have HBL:=hid_of hS.out.2
    have dM:decide (M < 0)=false:=decide_eq_false (by omega)
    clear hS
    by_cases hless:X < M
    ·have dX:decide (X < M)=true:=decide_eq_true hless
     have HN:Hid (∀ q,p+1+1=q+1→p+1=least (wk row above unit) q∧X=wk row above unit (p+1)):=fun q hq=>by
      obtain rfl:q=p+1:=by omega
      refine⟨?_,HW.out⟩
      unfold least
      rw[if_pos (by rw [← HPQ.out.1,← HPQ.out.2,← HW.out]; exact hless)]
     go_wp2_with fail
     refine (hfi _).mono ?_
     rintro e w1 ⟨rfl,hB1⟩
     have HB1:=hid_of (bnext HBL.out hB1)
     clear hB1
     go_wp2_with fail
     refine (hwe _).mono ?_
     rintro e w2 ⟨rfl,rfl⟩
     go_wp2_with fail
     refine (hwe _).mono ?_
     rintro e w2 ⟨rfl,rfl⟩
     go_wp2_with fail
     go_roundg (5 - (p+2))
     case measure=>omega
     case rel=>exact⟨p+2,p+1,X,by omega,by omega,by go_num,by go_num,rfl,.inr ⟨by omega,hr.1,hr.2,by omega⟩,HN.out,HB1.out⟩
    ·have dX:decide (X < M)=false:=decide_eq_false hless
     have HN:Hid (∀ q,p+1+1=q+1→B=least (wk row above unit) q∧M=wk row above unit B):=fun q hq=>by
      obtain rfl:q=p+1:=by omega
      refine⟨?_,HPQ.out.2⟩
      unfold least
      rw[if_neg (by rw [← HPQ.out.1,← HPQ.out.2,← HW.out]; exact hless)]
      exact HPQ.out.1
     go_wp2_with fail
     refine (hfi _).mono ?_
     rintro e w1 ⟨rfl,hB1⟩
     have HB1:=hid_of (bnext HBL.out hB1)
     clear hB1
     go_wp2_with fail
     refine (hwe _).mono ?_
     rintro e w2 ⟨rfl,rfl⟩
     go_wp2_with fail
     go_roundg (5 - (p+2))
     case measure=>omega
     case rel=>exact⟨p+2,B,M,by omega,by omega,by go_num,rfl,rfl,.inr ⟨by omega,hM0,hM1,hB4⟩,HN.out,HB1.out⟩
  ·obtain rfl:j=5:=by omega
   have dl:decide (((5:Nat):Int) < 5)=false:=decide_eq_false (by omega)
   have HE:Hid (B=least (wk row above unit) 4):=(hS.out.1 4 rfl).1
   have HBL:=hid_of hS.out.2
   clear hS hM
   go_wp2_with fail
   refine bodyPost_ret (v:=.tuple #[.int .i64 (B:Int),.bool true]) ?_ rfl ⟨by rw [HE.out],HBL.out⟩
   simp[results,Tryd.results93,go_sem]
theorem specBestF (row above:ByteArray) (unit:Int) (w:World) (h1:row.size≤1048576):Calls Tryd.prog 93 #[.string row,.string above,.int .i64 unit] w fun e w'=>e=.returned (.tuple #[.int .i64 (bestV row above unit),.bool (decide (FiltR 0 row above unit))])∧Below w.heap.size w w':=by
 unfold bestV
 by_cases h:FiltR 0 row above unit
 ·rw[if_pos h,decide_eq_true h]
  obtain⟨u,hu⟩:∃ u:Nat,unit=(u:Int):=⟨unit.toNat,by have:=h.2.1; omega⟩
  subst hu
  exact specBestF_in row above u w h
 ·rw[if_neg h,decide_eq_false h]
  have hno:=fun W=>specFilter_out 0 row above unit W h h1
  clear h
  go_enter Tryd.func93,Tryd.ntmps93
  go_wp2_with fail
  go_loopg [8,9,10] 1 (fun _ b m i w'=>b=.int .i64 0∧m=.int .i64 (-1)∧i=.int .i64 0∧w'=w)
  case atStart=>exact⟨rfl,rfl,rfl,rfl⟩
  case round=>
   obtain⟨rfl,rfl,rfl,rfl⟩:=hrel
   go_wp2_with fail
   refine (hno _).mono ?_
   rintro e w1 ⟨rfl,rfl⟩
   go_wp2_with fail
   refine bodyPost_ret (v:=.tuple #[.int .i64 0,.bool false]) ?_ rfl ⟨rfl,Below.refl _ _⟩
   simp[results,Tryd.results93,go_sem]
end
section
open Go.RowKit Go.Joins OutMath PutMath
def u8s (xs:List Int):List Value:=xs.map (Value.int .u8)
theorem u8s_length (ys:List Int):(u8s ys).length=ys.length:=by simp [u8s]
end
end Go.Proofs.YtcbbcadfolgioaaDoor
