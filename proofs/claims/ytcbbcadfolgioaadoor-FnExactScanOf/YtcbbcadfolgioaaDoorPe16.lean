/-
  Texts of the proof, put together.
-/
import Derived.Test.YtcbbcadfolgioaaDoorPe15
namespace Go.Proofs.YtcbbcadfolgioaaDoor
section
open Go.RowKit Go.Joins TakeMath
theorem info_u812:(Tryd.prog.info? 5).map (fun i=>(i.zero,i.size,i.bytes))=some (some (.int .u8 0),1,1):=by kernel_rfl
theorem make_bytes12 (w:World) (n:Nat) (hn:n≤16777216):(Instr.makeSlice 22 (.int .i64 n) (.int .i64 n)).run Tryd.prog w=.ok (.slice (some ⟨w.heap.size,0,none⟩) n n) (w.alloc (.cells (madeCells #[Value.int .u8 0] n) 5)):=by
 obtain⟨i0,hi0,hz0,hz1,hz2⟩:=info_parts info_u812
 have h:=run_make (P:=Tryd.prog) w 22 5 i0 (.int .u8 0) Tryd.underlying22 hi0 hz0 .i64 .i64 n n (by omega) (by omega) (by rw [hz2]; omega) (by omega)
 rw[hz1,Int.toNat_natCast,Nat.mul_one] at h
 exact h
def fb8 (h:Nat→Int) (n:Nat):List Value:=(List.range n).map fun i=>.int .u8 (h i)
theorem fb8_length (h:Nat→Int) (n:Nat):(fb8 h n).length=n:=by simp [fb8]
theorem fb8_get (f:Nat→Int) (n j:Nat) (h:j < (fb8 f n).length):(fb8 f n)[j]=.int .u8 (f j):=by simp [fb8]
theorem fb8_set (f:Nat→Int) (n j:Nat) (x:Int):(fb8 f n).set j (.int .u8 x)=fb8 (upd f j x) n:=by
 refine List.ext_getElem (by simp [fb8]) fun i h1 h2=>?_
 rw[List.getElem_set,fb8_get (upd f j x)]
 by_cases hij:j=i
 ·subst hij
  rw[if_pos rfl]
  simp[upd]
 ·have hji:¬ i=j:=fun h=>hij h.symm
  rw[if_neg hij,fb8_get]
  simp[upd,hji]
def BFn (w:World) (base g n cap:Nat) (f:Nat→Int):Prop:=Own 5 w base g (.slice (some ⟨g,0,none⟩) n cap) (fb8 f n)
section
variable {w w':World} {base g n cap:Nat} {f:Nat→Int}
theorem BFn.cell (h:BFn w base g n cap f) (j:Nat) (hj:j < n):w.cell? ⟨g,j,none⟩=some (.int .u8 (f j)):=by
 have h':j < (fb8 f n).length:=by rw [fb8_length]; exact hj
 rw[Own.cell h j h',fb8_get]
theorem BFn.free (h:BFn w base g n cap f) (j:Nat) (hj:j < n):w.frozen? ⟨g,j,none⟩=false:=Own.free h j (by rw [fb8_length]; exact hj)
theorem BFn.set (h:BFn w base g n cap f) (j:Nat) (hj:j < n) (x:Int):BFn (w.setCell ⟨g,j,none⟩ (.int .u8 x)) base g n cap (upd f j x):=by
 have k:=Own.set h j (by rw [fb8_length]; exact hj) (.int .u8 x)
 rw[fb8_set] at k
 exact k
theorem BFn.made (w:World) (n:Nat) (hn:n≤maxLen) (hb:base≤w.heap.size):BFn (w.alloc (.cells (madeCells #[Value.int .u8 0] n) 5)) base w.heap.size n n (fun _=>0):=by
 refine⟨n,madeCells #[Value.int .u8 0] n,(0,0),by rw [fb8_length],hb,heap_alloc_new w _,.inl rfl,by rw [fb8_length]; exact Nat.le_refl _,hn,by simp [madeCells],?_⟩
 have e:(madeCells #[Value.int .u8 0] n).toList=fb8 (fun _=>0) n:=by
  unfold madeCells fb8
  rw[Array.toList_map,Array.toList_range]
  refine List.map_congr_left fun i _=>?_
  simp[Nat.mod_one]
 rw[e,fb8_length,List.take_of_length_le (by rw [fb8_length]; exact Nat.le_refl _)]
theorem BFn.drew (h:BFn w base g n cap f):BFn w.drew base g n cap f:=Own.drewN h 1
theorem BFn.text (h:BFn w base g n cap f) (zs:List Int) (hl:zs.length=n) (hz:∀ i,i < n→zs.getD i 0=f i):(convert 22 9 (.slice (some ⟨g,0,none⟩) n cap)).run Tryd.prog w=.ok (.string (strOfNums zs)) w:=by
 refine run_convert_bytes_arg w 22 5 Tryd.underlying22 Tryd.underlying5 g 0 _ cap zs hl (fun i hi=>?_) 9 Tryd.underlying9
 rw[Nat.zero_add,h.cell i hi,hz i hi]
end
end
section
open Go.RowKit Go.Joins TakeMath TokMath FiltMath
structure But (g:Nat) (w w':World):Prop where
 os:w'.os=w.os
 tape:w'.tape=w.tape
 output:w'.output=w.output
 size:w.heap.size≤w'.heap.size
 block:∀ k,k < w.heap.size→k≠g→w'.heap[k]?=w.heap[k]?
section
variable {g k:Nat} {w w' a b c:World}
theorem But.refl (g:Nat) (w:World):But g w w:=⟨rfl,rfl,rfl,Nat.le_refl _,fun _ _ _=>rfl⟩
theorem But.trans (h:But g a b) (k:But g b c):But g a c:=
 ⟨k.os.trans h.os,k.tape.trans h.tape,k.output.trans h.output,Nat.le_trans h.size k.size,fun i hi hg=>(k.block i (Nat.lt_of_lt_of_le hi h.size) hg).trans (h.block i hi hg)⟩
theorem But.of_below (h:Below w.heap.size w w'):But g w w':=⟨h.os,h.tape,h.output,h.size,fun i hi _=>h.block i hi⟩
theorem But.next (h:But g a b) (k:Below b.heap.size b c):But g a c:=h.trans (But.of_below k)
theorem But.set (h:But g a b) (i:Nat) (v:Value):But g a (b.setCell ⟨g,i,none⟩ v):=
 h.trans ⟨rfl,rfl,rfl,by simp [World.setCell],fun _ _ hg=>Below.heap_setCell _ _ _ _ hg⟩
theorem But.drew (h:But g a b):But g a b.drew:=⟨h.os,h.tape,h.output,h.size,h.block⟩
theorem But.below {B:Nat} {w0:World} (h:But g a b) (hb:Below B w0 a) (hg:B≤g) (hB:B≤a.heap.size):Below B w0 b:=
 ⟨h.os.trans hb.os,h.tape.trans hb.tape,h.output.trans hb.output,Nat.le_trans hb.size h.size,fun i hi=>(h.block i (by omega) (by omega)).trans (hb.block i hi)⟩
theorem But.cell (h:But g a b) (hk:k < a.heap.size) (hne:k≠g) (i:Nat):b.cell? ⟨k,i,none⟩=a.cell? ⟨k,i,none⟩:=World.cell?_of_block (w:=a) (h.block k hk hne)
theorem But.frozen (h:But g a b) (hk:k < a.heap.size) (hne:k≠g) (i:Nat):b.frozen? ⟨k,i,none⟩=a.frozen? ⟨k,i,none⟩:=World.frozen?_of_block (w:=a) (h.block k hk hne)
theorem But.own {e:TypeId} {base:Nat} {v:Value} {xs:List Value} (h:But g a b) (ho:Own e a base k v xs) (hne:k≠g):Own e b base k v xs:=ho.keep (h.block k ho.lt hne)
theorem But.came {x:Option Addr} {n:Nat} {f:Nat→Int} (h:But g a b) (hc:Came a x n f) (hne:∀ q o,x=some ⟨q,o,none⟩→n=0∨q≠g):Came b x n f:=by
 rcases hc with hc | ⟨q,off,ha,hq,hcc⟩
 ·exact .inl hc
 rcases hne q off ha with h0 | h0
 ·exact .inl h0
 ·exact .inr ⟨q,off,ha,Nat.lt_of_lt_of_le hq h.size,fun j hj=>(h.cell hq h0 _).trans (hcc j hj)⟩
end
def BAt (w:World) (g n:Nat) (f:Nat→Int):Prop:=g < w.heap.size∧∀ i,i < n→w.cell? ⟨g,i,none⟩=some (.int .u8 (f i))
section
variable {g k n cap base:Nat} {w w':World} {f:Nat→Int}
theorem BAt.called (h:BAt w k n f) (hb:Below w.heap.size w w'):BAt w' k n f:=⟨Nat.lt_of_lt_of_le h.1 hb.size,fun i hi=>((bcell hb).1 k i h.1).trans (h.2 i hi)⟩
theorem BAt.but (h:BAt w k n f) (hb:But g w w') (hne:k≠g):BAt w' k n f:=⟨Nat.lt_of_lt_of_le h.1 hb.size,fun i hi=>(hb.cell h.1 hne i).trans (h.2 i hi)⟩
theorem BAt.drew (h:BAt w k n f):BAt w.drew k n f:=h
theorem BAt.congr {f':Nat→Int} (h:BAt w k n f) (e:∀ i,i < n→f i=f' i):BAt w k n f':=⟨h.1,fun i hi=>by rw [← e i hi]; exact h.2 i hi⟩
theorem BFn.at (h:BFn w base g n cap f):BAt w g n f:=⟨Own.lt h,h.cell⟩
theorem BFn.keep (h:BFn w base g n cap f) (hk:w'.heap[g]?=w.heap[g]?):BFn w' base g n cap f:=Own.keep h hk
theorem BFn.called (h:BFn w base g n cap f) (hb:Below w.heap.size w w'):BFn w' base g n cap f:=Own.keep h (hb.block g (Own.lt h))
theorem BFn.but (h:BFn w base k n cap f) (hb:But g w w') (hne:k≠g):BFn w' base k n cap f:=hb.own h hne
theorem BFn.congr {f':Nat→Int} (h:BFn w base g n cap f) (e:∀ i,i < n→f i=f' i):BFn w base g n cap f':=by
 have:fb8 f n=fb8 f' n:=by
  unfold fb8
  refine List.map_congr_left fun i hi=>?_
  rw[e i (List.mem_range.mp hi)]
 unfold BFn at h ⊢
 rw[← this]
 exact h
theorem BFn.mono {b:Nat} (h:BFn w base g n cap f) (hb:b≤base):BFn w b g n cap f:=Own.mono h hb
theorem BOwn.at {O:List Int} (h:BOwn w base g n cap O):BAt w g n (fun i=>O.getD i 0):=⟨h.lt,h.cell⟩
theorem bts_of13 (s:ByteArray) (i:Nat) (h:i < s.size):(bytesOf s).getD i 0=bts s i:=by
 unfold bts
 rw[← byteAt_get s i h]
 have h':i < s.data.size:=h
 simp[bytesOf,List.getD_eq_getElem?_getD,Array.getElem?_eq_getElem h']
 rfl
theorem BOwn.bytes {s:ByteArray} (h:BOwn w base g s.size cap (bytesOf s)):BAt w g s.size (bts s):=h.at.congr fun i hi=>bts_of13 s i hi
theorem BOwn.fn {s:ByteArray} (h:BOwn w base g s.size cap (bytesOf s)):BFn w base g s.size cap (bts s):=by
 have e:u8l (bytesOf s)=fb8 (bts s) s.size:=by
  refine List.ext_getElem (by rw [u8l_length,bytesOf_length,fb8_length]) fun i h1 h2=>?_
  rw[u8l_length,bytesOf_length] at h1
  rw[fb8_get,← bts_of13 s i h1,List.getD_eq_getElem?_getD,List.getElem?_eq_getElem (by rw [bytesOf_length]; exact h1)]
  simp[u8l]
 have h2:=h.2
 rw[e] at h2
 exact h2
def laidAt (f:Nat→Int) (o:Nat) (vs:List Int):Nat→Int:=fun i=>if o≤i∧i < o+vs.length then vs.getD (i - o) 0 else f i
theorem laidAt_in (f:Nat→Int) (o:Nat) (vs:List Int) (i:Nat) (h:i < vs.length):laidAt f o vs (o+i)=vs.getD i 0:=by
 unfold laidAt
 rw[if_pos ⟨by omega,by omega⟩,Nat.add_sub_cancel_left]
theorem laidAt_out (f:Nat→Int) (o:Nat) (vs:List Int) (i:Nat) (h:i < o∨o+vs.length≤i):laidAt f o vs i=f i:=by
 unfold laidAt
 rw[if_neg (by omega)]
theorem BFn.cells:∀ (vs:List Int) (o:Nat) (w:World) (f:Nat→Int),BFn w base g n cap f→o+vs.length≤n→BFn (w.setCells g o (vs.map (Value.int .u8))) base g n cap (laidAt f o vs)∧But g w (w.setCells g o (vs.map (Value.int .u8)))
 | [],o,w,f,h,_=>by
  refine⟨?_,But.refl _ _⟩
  show BFn w base g n cap _
  exact h.congr fun i _=>(laidAt_out f o [] i (by simp; omega)).symm
 | v :: r,o,w,f,h,hl=>by
  rw[List.length_cons] at hl
  obtain⟨h1,h2⟩:=BFn.cells r (o+1) (w.setCell ⟨g,o,none⟩ (.int .u8 v)) (upd f o v) (h.set o (by omega) v) (by omega)
  refine⟨?_,((But.refl g w).set o _).trans h2⟩
  show BFn ((w.setCell ⟨g,o,none⟩ (.int .u8 v)).setCells g (o+1) (r.map (Value.int .u8))) base g n cap _
  refine h1.congr fun i _=>?_
  unfold laidAt upd
  rw[List.length_cons]
  by_cases e:i=o
  ·subst e
   rw[if_neg (by omega),if_pos rfl,if_pos (by omega),Nat.sub_self]
   rfl
  ·by_cases e2:o+1≤i∧i < o+1+r.length
   ·rw[if_pos e2,if_pos (by omega),show i - o=(i - (o+1))+1 by omega]
    simp
   ·rw[if_neg e2,if_neg e,if_neg (by omega)]
theorem clear_fn (h:BFn w base g n cap f):∃ w1,(∀ ty,(Builtin.clear_ #[22] ty #[.slice (some ⟨g,0,none⟩) n cap]).run Tryd.prog w=.ok (.tuple #[]) w1)∧BFn w1 base g n cap (fun _=>0)∧But g w w1:=by
 rcases Nat.eq_zero_or_pos n with h0 | h0
 ·subst h0
  refine⟨w,fun ty=>?_,h.congr (fun i hi=>absurd hi (Nat.not_lt_zero i)),But.refl _ _⟩
  simp[Builtin.clear_,run_underlying Tryd.underlying22,Result.andThen]
 ·obtain⟨i0,hi0,hz0,-,-⟩:=info_parts info_u812
  have hl:(List.replicate n (0:Int)).length=n:=List.length_replicate
  obtain⟨h1,h2⟩:=BFn.cells (base:=base) (g:=g) (n:=n) (cap:=cap) (List.replicate n 0) 0 w f h (by rw [hl]; omega)
  have hst:=run_storeCells_cells (P:=Tryd.prog) g 0 ((List.replicate n (0:Int)).map (Value.int .u8)) 0 w (fun j hj=>by
    rw[List.length_map,hl] at hj
    rw[show 0+0+j=j by omega,h.cell j hj]
    rfl) (fun j hj=>by
    rw[List.length_map,hl] at hj
    rw[show 0+0+j=j by omega]
    exact h.free j hj) (fun v hv=>by
    obtain⟨x,-,rfl⟩:=List.mem_map.mp hv
    rfl)
  have hz:(Builtin.zeroCells (Value.int .u8 0).cells n).toList=(List.replicate n (0:Int)).map (Value.int .u8):=by
   have hc:(Value.int .u8 0).cells=#[.int .u8 0]:=rfl
   unfold Builtin.zeroCells
   rw[hc,List.map_replicate]
   refine List.ext_getElem (by simp) fun i h1 h2=>?_
   simp[Nat.mod_one]
  refine⟨_,fun ty=>?_,h1.congr (fun i hi=>?_),h2⟩
  ·obtain⟨m,rfl⟩:∃ m,n=m+1:=⟨n - 1,by omega⟩
   rw[List.map_replicate] at hst hz
   simp[Builtin.clear_,run_underlying Tryd.underlying22,zeroValue,typeInfo,hi0,hz0,hz,hst,Result.andThen]
  ·have:=laidAt_in f 0 (List.replicate n 0) i (by rw [hl]; exact hi)
   rw[Nat.zero_add] at this
   rw[this]
   simp[List.getD_eq_getElem?_getD,hi]
end
end
section
open Go.RowKit Go.Joins OutMath PutMath TakeMath RastMath FiltMath
theorem shift_any (j d r sh:Nat) (w:World) (hr:(j:Int) * (d:Int)=(r:Int)) (hrb:r≤20000000) (hs:r % 8+d≤8) (hsh:sh=8 - d - r % 8):
  Calls Tryd.prog 100 #[.int .i64 (j:Int),.int .i64 (d:Int)] w fun e w'=>e=.returned (.int .i64 (sh:Int))∧w'=w:=by
 have t2:(r:Int).tmod 8=(r:Int) % 8:=Int.tmod_eq_emod_of_nonneg (by omega)
 have HE:Hid ((8:Int) - (d:Int) - (r:Int) % 8=(sh:Int)):=by show _=_; omega
 have b1:(d:Int)≤8:=by omega
 clear hsh hs
 go_enter Tryd.func100,Tryd.ntmps100
 go_wp2_with fail
 go_ret
 exact⟨by rw [← HE.out]; rfl,rfl⟩
end
section
open Go.RowKit Go.Joins OutMath PutMath TakeMath RastMath
def SamPost (f:Nat→Int) (n d:Nat) (w:World) (e:Ending) (w':World):Prop:=∃ b,e=.returned (.bool b)∧(b=true↔Fit12 f n d)∧w'=w
set_option maxHeartbeats 800000 in
theorem samples_any (a:Option Addr) (n cap d:Nat) (f:Nat→Int) (w:World) (hC:Came w a n f) (hn:n≤1048576) (hd:d≤16):
  Calls Tryd.prog 77 #[.slice a n cap,.int .i64 (d:Int)] w (SamPost f n d w):=by
 have HC:=hid_of hC
 obtain⟨M,hM⟩:∃ M:Int,M=2 ^ d:=⟨_,rfl⟩
 have hMb:1≤M∧M≤65536:=by
  have h1:=p2_pos d
  have h2:=p2_le hd
  rw[show p2 16=65536 by decide +kernel] at h2
  rw[hM]
  exact⟨h1,h2⟩
 have HM:Hid (M=p2 d):=hM
 have r2:=hM.symm
 have w6:IntKind.i64.wrap M=M:=by rw [IntKind.wrap_i64]; omega
 have m64:min d 64=d:=by omega
 clear hC hM
 go_enter Tryd.func77,Tryd.ntmps77
 go_wp2_with fail
 go_loop [9] (fun i=>∃ j:Nat,j≤n∧i=.int .i64 j∧Hid (Fit12 f j d)) (fun i=>n - (intOf i).toNat)
 case atStart=>exact⟨0,Nat.zero_le _,rfl,fun i hi=>absurd hi (Nat.not_lt_zero i)⟩
 case round=>
  obtain⟨j,hj,rfl,hok⟩:=hrel
  by_cases hlt:j < n
  ·rcases HC.out with h0 | ⟨g,off,rfl,hg,hc⟩
   ·omega
   ·have c0:=hc j hlt
    clear hc
    by_cases hin:0≤f j∧f j < M
    ·have HK:Hid (Fit12 f (j+1) d):=hok.out.next hin.1 (by rw [← HM.out]; exact hin.2)
     have d0:decide (f j < 0)=false:=decide_eq_false (by omega)
     have d1:(f j / M != 0)=false:=by
      rw[Int.ediv_eq_zero_of_lt hin.1 hin.2]
      rfl
     clear hin
     go_wp2_with fail
     go_round
     case rel=>exact⟨j+1,by omega,by go_num,HK⟩
     case measure=>simp [intOf]; omega
    ·have HN:Hid (¬ Fit12 f n d):=fun h=>hin (by have:=h j hlt; rw [← HM.out] at this; exact this)
     by_cases h0:f j < 0
     ·have d0:decide (f j < 0)=true:=decide_eq_true h0
      clear hin
      go_wp2_with fail
      go_ret
      exact⟨false,rfl,by simp [HN.out],rfl⟩
     ·have d0:decide (f j < 0)=false:=decide_eq_false h0
      have d1:(f j / M != 0)=true:=by
       have:1≤f j / M:=(Int.le_ediv_iff_mul_le (by omega)).mpr (by omega)
       simp only [bne_iff_ne,ne_eq]
       omega
      clear hin
      go_wp2_with fail
      go_ret
      exact⟨false,rfl,by simp [HN.out],rfl⟩
  ·obtain rfl:j=n:=by omega
   go_wp2_with fail
   go_ret
   exact⟨true,rfl,by simp [hok.out],rfl⟩
end
section
open Go.RowKit Go.Joins OutMath PutMath TakeMath RastMath
def PckI (w w':World) (base g cap:Nat) (f:Nat→Int) (d NB j:Nat):Prop:=∃ h:Nat→Int,BFn w' base g NB cap h∧(∀ i,i < NB→h i=packB f j d i)∧But g w w'
theorem pckI_one {w wr:World} {base g cap:Nat} {f:Nat→Int} {d NB j m:Nat} {v:Int} (hS:PckI w wr base g cap f d NB j) (hm:m < NB) (hv:v=packB f (j+1) d m) (ho:∀ i,¬ i=m→packB f (j+1) d i=packB f j d i):PckI w (wr.setCell ⟨g,m,none⟩ (.int .u8 v)).drew base g cap f d NB (j+1):=by
 obtain⟨h,hO,hh,hB⟩:=hS
 refine⟨upd h m v,(hO.set m hm v).drew,fun i hi=>?_,(hB.set m _).drew⟩
 unfold upd
 by_cases e:i=m
 ·rw[if_pos e,e,hv]
 ·rw[if_neg e,ho i e]; exact hh i hi
theorem pckI_two {w wr:World} {base g cap:Nat} {f:Nat→Int} {NB j m:Nat} {v u:Int} (hS:PckI w wr base g cap f 16 NB j) (hm:m+1 < NB) (hj:m=2 * j) (h0:0≤f j) (h1:f j < 65536) (hv:v=f j / 256) (hu:u=f j % 256):PckI w ((wr.setCell ⟨g,m,none⟩ (.int .u8 v)).setCell ⟨g,m+1,none⟩ (.int .u8 u)) base g cap f 16 NB (j+1):=by
 obtain⟨h,hO,hh,hB⟩:=hS
 obtain⟨p0,p1,p2⟩:=packB_two f j h0 h1
 have hO1:=hO.set m (by omega) v
 refine⟨upd (upd h m v) (m+1) u,hO1.set (m+1) hm u,fun i hi=>?_,(hB.set m _).set (m+1) _⟩
 unfold upd
 by_cases e:i=m+1
 ·rw[if_pos e,e,hu,hj,p1]
 ·rw[if_neg e]
  by_cases e2:i=m
  ·rw[if_pos e2,e2,hv,hj,p0]
  ·rw[if_neg e2,p2 i (by omega) (by omega)]; exact hh i hi
def PackIntoPost (f:Nat→Int) (n d NB base G cb:Nat) (w:World) (e:Ending) (w':World):Prop:=e=.returned (.tuple #[])∧(∃ h,BFn w' base G NB cb h∧∀ i,i < NB→h i=packB f n d i)∧But G w w'
set_option maxRecDepth 100000 in
set_option maxHeartbeats 3200000 in
theorem packInto_any (a:Option Addr) (n cap d base G NB cb:Nat) (f h0:Nat→Int) (w:World) (hC:Came w a n f) (hd:Five (d:Int)) (hn:n≤1048576) (hF:Fit12 f n d) (hNB:NB=(n * d+7) / 8) (hO:BFn w base G NB cb h0) (hne:∀ q o,a=some ⟨q,o,none⟩→n=0∨q≠G):
  Calls Tryd.prog 84 #[.slice (some ⟨G,0,none⟩) NB cb,.slice a n cap,.int .i64 (d:Int)] w (PackIntoPost f n d NB base G cb w):=by
 have h5:=five_range hd
 have hnd:n * d≤1048576 * 16:=Nat.mul_le_mul hn (by omega)
 obtain⟨q,hq⟩:∃ q,q=n * d:=⟨_,rfl⟩
 rw[← hq] at hnd hNB
 have hq1:q≤8 * NB∧8 * NB≤q+7:=by omega
 have HC:=hid_of hC
 have HQ:=hid_of hq
 have HNB:=hid_of hNB
 have HD:=hid_of hd
 have HF:=hid_of hF
 have HNE:=hid_of hne
 obtain⟨w1,hcl,hO1,hB1⟩:=clear_fn hO
 have H0:Hid (PckI w w1 base G cb f d NB 0):=⟨_,hO1,fun i _=>(packB_none f d i).symm,hB1⟩
 clear hC hq hNB hd hF hne hO hO1 hB1
 go_enter Tryd.func84,Tryd.ntmps84
 go_wp2_with fail
 go_loopw [11] (fun i w'=>∃ j:Nat,j≤n∧i=.int .i64 j∧Hid (PckI w w' base G cb f d NB j)) (fun i _=>n - (intOf i).toNat)
 case atStart=>exact⟨0,Nat.zero_le _,rfl,H0⟩
 case round=>
  clear H0 hcl
  obtain⟨j,hj,rfl,hS⟩:=hrel
  by_cases hlt:j < n
  ·obtain⟨h,hO,hh,hBB⟩:=hS.out
   have hjd:j * d+d≤q:=by
    have:=Nat.mul_le_mul_right d (show j+1≤n by omega)
    rw[Nat.add_mul,Nat.one_mul] at this
    rw[HQ.out]
    exact this
   rcases HC.out with h0 | ⟨g,off,rfl,hg,hc⟩
   ·omega
   have hgG:¬ g=G:=by
    rcases HNE.out g off rfl with h1 | h1
    ·omega
    ·exact h1
   have c0:wr.cell? ⟨g,off+j,none⟩=some (.int .i64 (f j)):=(hBB.cell hg hgG _).trans (hc j hlt)
   have l0:g < wr.heap.size:=Nat.lt_of_lt_of_le hg hBB.size
   have hfj:=HF.out j hlt
   have l1:=Own.lt hO
   by_cases h16:d=16
   ·subst h16
    rw[show p2 16=65536 by decide +kernel] at hfj
    obtain⟨x,hx⟩:∃ x,x=2 * j:=⟨_,rfl⟩
    have e1:(2:Int) * (j:Int)=(x:Int):=by omega
    have hxs:x+1 < NB:=by omega
    have xi0:(x:Int) < (NB:Int):=by omega
    have xi1:(x:Int)+1 < (NB:Int):=by omega
    have k0:=hO.cell x (by omega)
    have k1:=hO.cell (x+1) hxs
    have f0:=hO.free x (by omega)
    have f1:=hO.free (x+1) hxs
    have HN:=hid_of (pckI_two (v:=f j / 256) (u:=f j % 256) hS.out hxs hx hfj.1 hfj.2 rfl rfl)
    obtain⟨F,hF⟩:∃ F,F=f j:=⟨_,rfl⟩
    rw[← hF] at c0 hfj HN
    have u1:F / 256 % 256=F / 256:=by omega
    clear hh hBB hO hc hx hF
    go_wp2_with fail
    go_roundw
    case rel=>exact⟨j+1,by omega,by go_num,HN⟩
    case measure=>simp [intOf]; omega
   ·have hpl:=five_place HD.out h16 j
    obtain⟨⟨Q,hy,q0,q1,hnx⟩,hoth⟩:=packB_small f j d hpl hfj.1 hfj.2
    obtain⟨r,hr⟩:∃ r,r=j * d:=⟨_,rfl⟩
    have hri:(j:Int) * (d:Int)=(r:Int):=by rw [hr]; simp
    rw[← hr] at hjd hpl hy q1 hnx hoth
    obtain⟨sh,hsh⟩:∃ sh,sh=8 - d - r % 8:=⟨_,rfl⟩
    have hsf:=fun W=>shift_any j d r sh W hri (by omega) hpl hsh
    obtain⟨x,hx⟩:∃ x,x=r / 8:=⟨_,rfl⟩
    rw[← hsh] at hy hnx
    rw[← hx] at hy hnx hoth
    have hxl:x < NB:=by omega
    have xi0:(x:Int) < (NB:Int):=by omega
    have k0:=hO.cell x hxl
    have f0:=hO.free x hxl
    rw[hh x hxl] at k0
    obtain⟨Y,hY⟩:∃ Y,Y=packB f j d x:=⟨_,rfl⟩
    obtain⟨F,hF⟩:∃ F,F=f j:=⟨_,rfl⟩
    rw[← hF] at c0 hfj
    obtain⟨Z,hZ⟩:∃ Z:Int,Z=F * 2 ^ sh:=⟨_,rfl⟩
    have hZ2:Z=F * p2 sh:=hZ
    have hZb:0≤Z∧Z < 256:=by
     have h1:=p2_pos sh
     have h2:F * p2 sh≤(p2 d - 1) * p2 sh:=Int.mul_le_mul_of_nonneg_right (by omega) (by omega)
     have h3:p2 d * p2 sh≤256:=by
      rw[← p2_add]
      have:=p2_le (show d+sh≤8 by omega)
      rw[show p2 8=256 by decide +kernel] at this
      exact this
     have h4:(p2 d - 1) * p2 sh=p2 d * p2 sh - p2 sh:=by rw [Int.sub_mul,Int.one_mul]
     have h5:0≤F * p2 sh:=Int.mul_nonneg hfj.1 (by omega)
     omega
    have HV:Hid (bits .or .u8 Y Z=packB f (j+1) d x):=by
     show _=_
     rw[hnx,hY,hy,hZ2,← hF]
     exact or_small Q F (r % 8) d sh (by omega) q0 q1 hfj.1 hfj.2
    rw[← hY] at k0
    have hYb:=packB_range f j d x
    rw[← hY] at hYb
    have HN:=fun v hv=>hid_of (pckI_one (v:=v) hS.out hxl hv hoth)
    have t1:(r:Int).tdiv 8=(x:Int):=by
     rw[Int.tdiv_eq_ediv_of_nonneg (by omega)]
     omega
    have w1:IntKind.i64.wrap ((x:Int))=(x:Int):=by rw [IntKind.wrap_i64]; omega
    have w2:IntKind.i64.wrap ((r:Int))=(r:Int):=by rw [IntKind.wrap_i64]; omega
    have w4:IntKind.i64.wrap Z=Z:=by rw [IntKind.wrap_i64]; omega
    have w5:IntKind.u8.wrap Z=Z:=by show Z % 256=Z; omega
    have w6:Z % 256=Z:=by omega
    have m64:min sh 64=sh:=by omega
    have r0:=hZ.symm
    have d16:((d:Int) == 16)=false:=beq_no1 (by omega)
    have HPL:=hid_of hpl
    clear hx hZ hZ2 hY hF hr hsh hpl hy q0 q1 hnx hoth hh hO hBB hc
    go_wp2_with fail
    go_region_with (go_at_call 100; refine (hsf _).mono ?_; rintro e w' ⟨rfl,rfl⟩)
    all_goals
     go_wp2_with fail
     go_roundw
     case rel=>exact⟨j+1,by omega,by go_num,HN _ HV.out⟩
     case measure=>simp [intOf]; omega
  ·obtain rfl:j=n:=by omega
   obtain⟨h,hO,hh,hBB⟩:=hS.out
   have HE:Hid ((∃ h,BFn wr base G NB cb h∧∀ i,i < NB→h i=packB f j d i)∧But G w wr):=⟨⟨h,hO,hh⟩,hBB⟩
   clear hh hBB hO hS
   go_wp2_with fail
   go_end0
   exact⟨rfl,HE.out⟩
end
end Go.Proofs.YtcbbcadfolgioaaDoor
