/-
  Texts of the proof, put together.
-/
import Derived.Test.YtkpbfmdnjnohlaaGreatTk03
import Derived.Deep.RegionHeld3
namespace Go.Proofs.YtkpbfmdnjnohlaaGreat
section
open Go.RowKit Go.Joins HeadMath ChunkMath
set_option maxRecDepth 100000 in
set_option maxHeartbeats 3200000 in
theorem eqPng_same (p:Pic) (q r:PicA) (w:World) (hP:PngIn w p q) (hQ:PngIn w p r) (hZ:PngSz p):
  Calls Tryz.prog 12 #[pngV p q,pngV p r] w fun e w'=>e=.returned (.bool true)∧Below w.heap.size w w':=by
 obtain⟨hw,hh,hd,hc',lace,tn,T,cn,C,rw',rh,rc,rd,sn,S,kn,K⟩:=p
 obtain⟨ta,tc,ca,cc,sa,sc,ka,kc⟩:=q
 obtain⟨ta2,tc2,ca2,cc2,sa2,sc2,ka2,kc2⟩:=r
 have HT:Hid (RgbCame w ta tn T∧RgbCame w ta2 tn T):=⟨hP.t,hQ.t⟩
 have HC:Hid (Came w ca cn C∧Came w ca2 cn C):=⟨hP.c,hQ.c⟩
 have HS:Hid (Came w sa sn S∧Came w sa2 sn S):=⟨hP.s,hQ.s⟩
 have HK:Hid (KCame w ka kn K∧KCame w ka2 kn K):=⟨hP.k,hQ.k⟩
 have ht':tn≤1048576:=hZ.t
 have hc2:cn≤1048576:=hZ.c
 have hs':sn≤1048576:=hZ.s
 have hk':kn≤1048576:=hZ.k
 clear hP hQ hZ
 have H0:Hid (((w.alloc (.cells #[.int .i64 hw,.int .i64 hh,.int .i64 hd,.int .i64 hc',.bool lace,.slice ta tn tc,.slice ca cn cc,.int .i64 rw',.int .i64 rh,.int .i64 rc,.int .i64 rd,.slice sa sn sc,.slice ka kn kc] 37)).alloc (.cells #[.int .i64 hw,.int .i64 hh,.int .i64 hd,.int .i64 hc',.bool lace,.slice ta2 tn tc2,.slice ca2 cn cc2,.int .i64 rw',.int .i64 rh,.int .i64 rc,.int .i64 rd,.slice sa2 sn sc2,.slice ka2 kn kc2] 37)).heap[w.heap.size]?=some (.cells #[.int .i64 hw,.int .i64 hh,.int .i64 hd,.int .i64 hc',.bool lace,.slice ta tn tc,.slice ca cn cc,.int .i64 rw',.int .i64 rh,.int .i64 rc,.int .i64 rd,.slice sa sn sc,.slice ka kn kc] 37 (0,0))∧((w.alloc (.cells #[.int .i64 hw,.int .i64 hh,.int .i64 hd,.int .i64 hc',.bool lace,.slice ta tn tc,.slice ca cn cc,.int .i64 rw',.int .i64 rh,.int .i64 rc,.int .i64 rd,.slice sa sn sc,.slice ka kn kc] 37)).alloc (.cells #[.int .i64 hw,.int .i64 hh,.int .i64 hd,.int .i64 hc',.bool lace,.slice ta2 tn tc2,.slice ca2 cn cc2,.int .i64 rw',.int .i64 rh,.int .i64 rc,.int .i64 rd,.slice sa2 sn sc2,.slice ka2 kn kc2] 37)).heap[w.heap.size+1]?=some (.cells #[.int .i64 hw,.int .i64 hh,.int .i64 hd,.int .i64 hc',.bool lace,.slice ta2 tn tc2,.slice ca2 cn cc2,.int .i64 rw',.int .i64 rh,.int .i64 rc,.int .i64 rd,.slice sa2 sn sc2,.slice ka2 kn kc2] 37 (0,0))∧Below w.heap.size w ((w.alloc (.cells #[.int .i64 hw,.int .i64 hh,.int .i64 hd,.int .i64 hc',.bool lace,.slice ta tn tc,.slice ca cn cc,.int .i64 rw',.int .i64 rh,.int .i64 rc,.int .i64 rd,.slice sa sn sc,.slice ka kn kc] 37)).alloc (.cells #[.int .i64 hw,.int .i64 hh,.int .i64 hd,.int .i64 hc',.bool lace,.slice ta2 tn tc2,.slice ca2 cn cc2,.int .i64 rw',.int .i64 rh,.int .i64 rc,.int .i64 rd,.slice sa2 sn sc2,.slice ka2 kn kc2] 37))):=by
  refine⟨?_,?_,bal (bstart _ _) _⟩
  ·show ((w.heap.push _).push _)[w.heap.size]?=_
   rw[Array.getElem?_push,if_neg (by simp),Array.getElem?_push,if_pos (by simp)]
  ·show ((w.heap.push _).push _)[w.heap.size+1]?=_
   rw[Array.getElem?_push,if_pos (by simp)]
 show Calls Tryz.prog 12 #[.agg #[.int .i64 hw,.int .i64 hh,.int .i64 hd,.int .i64 hc',.bool lace,.slice ta tn tc,.slice ca cn cc,.int .i64 rw',.int .i64 rh,.int .i64 rc,.int .i64 rd,.slice sa sn sc,.slice ka kn kc],.agg #[.int .i64 hw,.int .i64 hh,.int .i64 hd,.int .i64 hc',.bool lace,.slice ta2 tn tc2,.slice ca2 cn cc2,.int .i64 rw',.int .i64 rh,.int .i64 rc,.int .i64 rd,.slice sa2 sn sc2,.slice ka2 kn kc2]] w _
 go_enter Tryz.func12,Tryz.ntmps12
 go_wp2_with fail
 refine (eqHead_same hw hh hd hc' lace _).mono ?_
 rintro e w1 ⟨rfl,hB⟩
 have H1:Hid (w1.heap[w.heap.size]?=some (.cells #[.int .i64 hw,.int .i64 hh,.int .i64 hd,.int .i64 hc',.bool lace,.slice ta tn tc,.slice ca cn cc,.int .i64 rw',.int .i64 rh,.int .i64 rc,.int .i64 rd,.slice sa sn sc,.slice ka kn kc] 37 (0,0))∧w1.heap[w.heap.size+1]?=some (.cells #[.int .i64 hw,.int .i64 hh,.int .i64 hd,.int .i64 hc',.bool lace,.slice ta2 tn tc2,.slice ca2 cn cc2,.int .i64 rw',.int .i64 rh,.int .i64 rc,.int .i64 rd,.slice sa2 sn sc2,.slice ka2 kn kc2] 37 (0,0))∧Below w.heap.size w w1):=⟨(hB.block _ (block_lt H0.out.1)).trans H0.out.1,(hB.block _ (block_lt H0.out.2.1)).trans H0.out.2.1,bnext H0.out.2.2 hB⟩
 clear hB H0
 have l0:=block_lt H1.out.1
 have l1:=block_lt H1.out.2.1
 have a5:=(cell_of_block H1.out.1 5).trans rfl
 have b5:=(cell_of_block H1.out.2.1 5).trans rfl
 go_wp2_with fail
 clear l0 l1 a5 b5
 refine (eqRgbS_same ta ta2 tn tc tc2 T _ (HT.out.1.called H1.out.2.2) (HT.out.2.called H1.out.2.2) ht').mono ?_
 rintro e w2 ⟨rfl,hB⟩
 have H2:Hid (w2.heap[w.heap.size]?=some (.cells #[.int .i64 hw,.int .i64 hh,.int .i64 hd,.int .i64 hc',.bool lace,.slice ta tn tc,.slice ca cn cc,.int .i64 rw',.int .i64 rh,.int .i64 rc,.int .i64 rd,.slice sa sn sc,.slice ka kn kc] 37 (0,0))∧w2.heap[w.heap.size+1]?=some (.cells #[.int .i64 hw,.int .i64 hh,.int .i64 hd,.int .i64 hc',.bool lace,.slice ta2 tn tc2,.slice ca2 cn cc2,.int .i64 rw',.int .i64 rh,.int .i64 rc,.int .i64 rd,.slice sa2 sn sc2,.slice ka2 kn kc2] 37 (0,0))∧Below w.heap.size w w2):=⟨(hB.block _ (block_lt H1.out.1)).trans H1.out.1,(hB.block _ (block_lt H1.out.2.1)).trans H1.out.2.1,bnext H1.out.2.2 hB⟩
 clear hB H1
 have l0:=block_lt H2.out.1
 have l1:=block_lt H2.out.2.1
 have a6:=(cell_of_block H2.out.1 6).trans rfl
 have b6:=(cell_of_block H2.out.2.1 6).trans rfl
 go_wp2_with fail
 clear l0 l1 a6 b6
 refine (eqIntS_same ca ca2 cn cc cc2 C _ (HC.out.1.called H2.out.2.2) (HC.out.2.called H2.out.2.2) hc2).mono ?_
 rintro e w3 ⟨rfl,hB⟩
 have H3:Hid (w3.heap[w.heap.size]?=some (.cells #[.int .i64 hw,.int .i64 hh,.int .i64 hd,.int .i64 hc',.bool lace,.slice ta tn tc,.slice ca cn cc,.int .i64 rw',.int .i64 rh,.int .i64 rc,.int .i64 rd,.slice sa sn sc,.slice ka kn kc] 37 (0,0))∧w3.heap[w.heap.size+1]?=some (.cells #[.int .i64 hw,.int .i64 hh,.int .i64 hd,.int .i64 hc',.bool lace,.slice ta2 tn tc2,.slice ca2 cn cc2,.int .i64 rw',.int .i64 rh,.int .i64 rc,.int .i64 rd,.slice sa2 sn sc2,.slice ka2 kn kc2] 37 (0,0))∧Below w.heap.size w w3):=⟨(hB.block _ (block_lt H2.out.1)).trans H2.out.1,(hB.block _ (block_lt H2.out.2.1)).trans H2.out.2.1,bnext H2.out.2.2 hB⟩
 clear hB H2
 have l0:=block_lt H3.out.1
 have l1:=block_lt H3.out.2.1
 have a7:=(cell_of_block H3.out.1 7).trans rfl
 have b7:=(cell_of_block H3.out.2.1 7).trans rfl
 have a8:=(cell_of_block H3.out.1 8).trans rfl
 have b8:=(cell_of_block H3.out.2.1 8).trans rfl
 have a9:=(cell_of_block H3.out.1 9).trans rfl
 have b9:=(cell_of_block H3.out.2.1 9).trans rfl
 have a10:=(cell_of_block H3.out.1 10).trans rfl
 have b10:=(cell_of_block H3.out.2.1 10).trans rfl
 have a11:=(cell_of_block H3.out.1 11).trans rfl
 have b11:=(cell_of_block H3.out.2.1 11).trans rfl
 go_wp2_with fail
 clear l0 l1 a7 b7 a8 b8 a9 b9 a10 b10 a11 b11
 refine (eqRaster_same rw' rh rc rd sa sa2 sn sc sc2 S _ (HS.out.1.called H3.out.2.2) (HS.out.2.called H3.out.2.2) hs').mono ?_
 rintro e w4 ⟨rfl,hB⟩
 have H4:Hid (w4.heap[w.heap.size]?=some (.cells #[.int .i64 hw,.int .i64 hh,.int .i64 hd,.int .i64 hc',.bool lace,.slice ta tn tc,.slice ca cn cc,.int .i64 rw',.int .i64 rh,.int .i64 rc,.int .i64 rd,.slice sa sn sc,.slice ka kn kc] 37 (0,0))∧w4.heap[w.heap.size+1]?=some (.cells #[.int .i64 hw,.int .i64 hh,.int .i64 hd,.int .i64 hc',.bool lace,.slice ta2 tn tc2,.slice ca2 cn cc2,.int .i64 rw',.int .i64 rh,.int .i64 rc,.int .i64 rd,.slice sa2 sn sc2,.slice ka2 kn kc2] 37 (0,0))∧Below w.heap.size w w4):=⟨(hB.block _ (block_lt H3.out.1)).trans H3.out.1,(hB.block _ (block_lt H3.out.2.1)).trans H3.out.2.1,bnext H3.out.2.2 hB⟩
 clear hB H3
 have l0:=block_lt H4.out.1
 have l1:=block_lt H4.out.2.1
 have a12:=(cell_of_block H4.out.1 12).trans rfl
 have b12:=(cell_of_block H4.out.2.1 12).trans rfl
 go_wp2_with fail
 clear l0 l1 a12 b12
 refine (eqChunkS_same ka ka2 kn kc kc2 K _ (HK.out.1.called H4.out.2.2) (HK.out.2.called H4.out.2.2) hk').mono ?_
 rintro e w5 ⟨rfl,hB⟩
 have H5:Hid (w5.heap[w.heap.size]?=some (.cells #[.int .i64 hw,.int .i64 hh,.int .i64 hd,.int .i64 hc',.bool lace,.slice ta tn tc,.slice ca cn cc,.int .i64 rw',.int .i64 rh,.int .i64 rc,.int .i64 rd,.slice sa sn sc,.slice ka kn kc] 37 (0,0))∧w5.heap[w.heap.size+1]?=some (.cells #[.int .i64 hw,.int .i64 hh,.int .i64 hd,.int .i64 hc',.bool lace,.slice ta2 tn tc2,.slice ca2 cn cc2,.int .i64 rw',.int .i64 rh,.int .i64 rc,.int .i64 rd,.slice sa2 sn sc2,.slice ka2 kn kc2] 37 (0,0))∧Below w.heap.size w w5):=⟨(hB.block _ (block_lt H4.out.1)).trans H4.out.1,(hB.block _ (block_lt H4.out.2.1)).trans H4.out.2.1,bnext H4.out.2.2 hB⟩
 clear hB H4
 go_wp2_with fail
 go_ret
 exact⟨rfl,H5.out.2.2⟩
end
section
open Go.RowKit Go.Joins
set_option maxHeartbeats 800000 in
theorem markIntS_own (base g n cap:Nat) (f:Nat→Int) (k:Int) (w:World) (hO:IOwn w base g n cap f) (hn:n≤1048576) (hk0:0≤k) (hk1:k≤1073741824):
  Calls Tryz.prog 47 #[.slice (some ⟨g,0,none⟩) n cap,.int .i64 k] w fun e w'=>e=.returned (.int .i64 (k+n))∧IOwn w' base g n cap (fun j=>k+j)∧w.grownBy w' (some g):=by
 have HO:Hid (IOwn w base g n cap f):=hO
 clear hO
 go_enter Tryz.func47,Tryz.ntmps47
 go_wp2_with fail
 go_loopw [1,5] (fun x i w'=>∃ (j:Nat) (h:Nat→Int),j≤n∧i=.int .i64 j∧x=.int .i64 (k+j)∧Hid (∀ i,i < j→h i=k+i)∧Hid (IOwn w' base g n cap h)∧Hid (w.grownBy w' (some g))) (fun _ i _=>n - (intOf i).toNat)
 case atStart=>exact⟨0,_,Nat.zero_le _,rfl,by simp,fun i hi=>absurd hi (Nat.not_lt_zero i),HO,⟨rfl,rfl,rfl,Nat.le_refl _,fun _ _ _=>rfl⟩⟩
 case round=>
  obtain⟨j,h,hj,rfl,rfl,hh,hOj,hBj⟩:=hrel
  by_cases hlt:j < n
  ·have c1:=hOj.out.cell j hlt
   have f1:=hOj.out.free j hlt
   have hl:=hOj.out.lt
   have HO1:Hid (IOwn (wr.setCell ⟨g,j,none⟩ (.int .i64 (k+j))) base g n cap (upd h j (k+j))):=hOj.out.set j hlt _
   have HB1:Hid (w.grownBy (wr.setCell ⟨g,j,none⟩ (.int .i64 (k+j))) (some g)):=⟨hBj.out.os,hBj.out.tape,hBj.out.output,by simpa using hBj.out.size,fun b hb hne=>(Below.heap_setCell wr ⟨g,j,none⟩ _ b (by simpa using hne)).trans (hBj.out.block b hb hne)⟩
   have HH:Hid (∀ i,i < j+1→upd h j (k+j) i=k+i):=by
    intro i hi
    unfold upd
    by_cases e:i=j
    ·rw[if_pos e,e]
    ·rw[if_neg e]; exact hh.out i (by omega)
   go_wp2_with fail
   go_roundw
   case rel=>exact⟨j+1,_,by omega,by go_num,by go_num,HH,HO1,HB1⟩
   case measure=>simp [intOf]; omega
  ·obtain rfl:j=n:=by omega
   go_wp2_with fail
   go_ret
   exact⟨rfl,hOj.out.congr hh.out,hBj.out⟩
theorem markIntS_none (a:Option Addr) (cap:Nat) (k:Int) (w:World):
  Calls Tryz.prog 47 #[.slice a 0 cap,.int .i64 k] w fun e w'=>e=.returned (.int .i64 k)∧w'=w:=by
 go_enter Tryz.func47,Tryz.ntmps47
 go_wp2_with fail
 go_loop [1,5] (fun x i=>x=.int .i64 k∧i=.int .i64 0) (fun _ _=>0)
 case atStart=>exact⟨rfl,rfl⟩
 case round=>
  obtain⟨rfl,rfl⟩:=hrel
  go_wp2_with fail
  go_ret
  exact⟨rfl,rfl⟩
set_option maxHeartbeats 800000 in
theorem heldIntS_same (a:Option Addr) (n cap:Nat) (k:Int) (w:World) (hC:Came w a n (fun j=>k+j)) (hn:n≤1048576) (hk0:0≤k) (hk1:k≤1073741824):
  Calls Tryz.prog 51 #[.slice a n cap,.int .i64 k] w fun e w'=>e=.returned (.int .i64 (k+n))∧Below w.heap.size w w':=by
 have HC:Hid (Came w a n (fun j=>k+j)):=hC
 clear hC
 go_enter Tryz.func51,Tryz.ntmps51
 go_wp2_with fail
 go_loopw [1,5] (fun x i w'=>∃ (j:Nat),j≤n∧i=.int .i64 j∧x=.int .i64 (k+j)∧Hid (Below w.heap.size w w')) (fun _ i _=>n - (intOf i).toNat)
 case atStart=>exact⟨0,Nat.zero_le _,rfl,by simp,Below.refl _ _⟩
 case round=>
  obtain⟨j,hj,rfl,rfl,hBj⟩:=hrel
  by_cases hlt:j < n
  ·rcases HC.out with h0 | ⟨g,off,rfl,hg,hc⟩
   ·omega
   ·have k0:wr.cell? ⟨g,off+j,none⟩=some (.int .i64 (k+j)):=(hBj.out.cell (p:=⟨g,off+j,none⟩) hg).trans (hc j hlt)
    have l0:g < wr.heap.size:=Nat.lt_of_lt_of_le hg hBj.out.size
    clear hc
    go_wp2_with fail
    go_roundw
    case rel=>exact⟨j+1,by omega,by go_num,by go_num,hBj.out⟩
    case measure=>simp [intOf]; omega
  ·obtain rfl:j=n:=by omega
   go_wp2_with fail
   go_ret
   exact⟨rfl,hBj.out⟩
end
section
open Go.RowKit Go.Joins
structure Ras where
 x0:Int
 x1:Int
 x2:Int
 x3:Int
 n:Nat
 f:Nat→Int
def Ras.same (r s:Ras):Prop:=r.x0=s.x0∧r.x1=s.x1∧r.x2=s.x2∧r.x3=s.x3∧r.n=s.n∧∀ i,i < r.n→r.f i=s.f i
theorem Ras.same.refl (r:Ras):r.same r:=⟨rfl,rfl,rfl,rfl,rfl,fun _ _=>rfl⟩
theorem Ras.same.symm {r s:Ras} (h:r.same s):s.same r:=⟨h.1.symm,h.2.1.symm,h.2.2.1.symm,h.2.2.2.1.symm,h.2.2.2.2.1.symm,fun i hi=>(h.2.2.2.2.2 i (by rw [h.2.2.2.2.1]; exact hi)).symm⟩
theorem Ras.same.trans {r s t:Ras} (h:r.same s) (k:s.same t):r.same t:=⟨h.1.trans k.1,h.2.1.trans k.2.1,h.2.2.1.trans k.2.2.1,h.2.2.2.1.trans k.2.2.2.1,h.2.2.2.2.1.trans k.2.2.2.2.1,fun i hi=>(h.2.2.2.2.2 i hi).trans (k.2.2.2.2.2 i (by rw [← h.2.2.2.2.1]; exact hi))⟩
theorem Came.congr14 {w:World} {a:Option Addr} {n:Nat} {f f':Nat→Int} (h:Came w a n f) (e:∀ i,i < n→f i=f' i):Came w a n f':=by
 rcases h with h | ⟨g,off,ha,hg,hc⟩
 ·exact .inl h
 ·exact .inr ⟨g,off,ha,hg,fun j hj=>by rw [← e j hj]; exact hc j hj⟩
theorem Came.same {w:World} {a:Option Addr} {r s:Ras} (h:Came w a r.n r.f) (e:r.same s):Came w a s.n s.f:=by
 rw[← e.2.2.2.2.1]
 exact h.congr14 e.2.2.2.2.2
section
variable {w w':World} {base g m:Nat} {R S:Nat→Ras} {A:Nat→Option Addr} {G C:Nat→Nat}
end
end
section
open Go.RowKit Go.Joins
theorem grown_of_alloc {w w':World} {o:Obj} {row:Option Nat} (h:(w.alloc o).grownBy w' row):w.grownBy w' row:=
 ⟨h.os,h.tape,h.output,Nat.le_trans (by simp) h.size,fun k hk hne=>(h.block k (by simp; omega) hne).trans (Below.heap_alloc w o k hk)⟩
theorem markRaster_own (x0 x1 x2 x3:Int) (base g n cap:Nat) (f:Nat→Int) (k:Int) (w:World) (hO:IOwn w base g n cap f) (hn:n≤1048576) (h0:0≤k) (h1:k≤1073741824):
  Calls Tryz.prog 48 #[.agg #[.int .i64 x0,.int .i64 x1,.int .i64 x2,.int .i64 x3,.slice (some ⟨g,0,none⟩) n cap],.int .i64 k] w fun e w'=>e=.returned (.int .i64 (k+n))∧w.grownBy w' (some g):=by
 have HO:=hid_of hO
 clear hO
 go_enter Tryz.func48,Tryz.ntmps48
 go_wp2_with fail
 refine (markIntS_own base g n cap f k _ (HO.out.alloc _) hn h0 h1).mono ?_
 rintro e w2 ⟨rfl,_,hg⟩
 have HG:=hid_of (grown_of_alloc hg)
 clear hg
 go_wp2_with fail
 go_ret
 exact⟨rfl,HG.out⟩
theorem markRaster_mine (x0 x1 x2 x3:Int) (base g n cap:Nat) (f:Nat→Int) (k:Int) (w:World) (hO:IOwn w base g n cap f) (hn:n≤1048576) (h0:0≤k) (h1:k≤1073741824):
  Calls Tryz.prog 48 #[.agg #[.int .i64 x0,.int .i64 x1,.int .i64 x2,.int .i64 x3,.slice (some ⟨g,0,none⟩) n cap],.int .i64 k] w fun e w'=>e=.returned (.int .i64 (k+n))∧IOwn w' base g n cap (fun j=>k+j)∧w.grownBy w' (some g):=by
 have HO:=hid_of hO
 clear hO
 go_enter Tryz.func48,Tryz.ntmps48
 go_wp2_with fail
 refine (markIntS_own base g n cap f k _ (HO.out.alloc _) hn h0 h1).mono ?_
 rintro e w2 ⟨rfl,hO2,hg⟩
 have HG:=hid_of (And.intro hO2 (grown_of_alloc hg))
 clear hg hO2
 go_wp2_with fail
 go_ret
 exact⟨rfl,HG.out⟩
theorem markRaster_none (x0 x1 x2 x3:Int) (a:Option Addr) (cap:Nat) (k:Int) (w:World):
  Calls Tryz.prog 48 #[.agg #[.int .i64 x0,.int .i64 x1,.int .i64 x2,.int .i64 x3,.slice a 0 cap],.int .i64 k] w fun e w'=>e=.returned (.int .i64 k)∧Below w.heap.size w w':=by
 go_enter Tryz.func48,Tryz.ntmps48
 go_wp2_with fail
 refine (markIntS_none a cap k _).mono ?_
 rintro e w2 ⟨rfl,rfl⟩
 go_wp2_with fail
 go_ret
 exact⟨rfl,bstart _ _⟩
theorem heldRaster_same (x0 x1 x2 x3:Int) (a:Option Addr) (n cap:Nat) (k:Int) (w:World) (hC:Came w a n (fun j=>k+j)) (hn:n≤1048576) (h0:0≤k) (h1:k≤1073741824):
  Calls Tryz.prog 52 #[.agg #[.int .i64 x0,.int .i64 x1,.int .i64 x2,.int .i64 x3,.slice a n cap],.int .i64 k] w fun e w'=>e=.returned (.int .i64 (k+n))∧Below w.heap.size w w':=by
 have HC:=hid_of hC
 have dk:decide (k+(n:Int) < 0)=false:=decide_eq_false (by omega)
 clear hC
 go_enter Tryz.func52,Tryz.ntmps52
 go_wp2_with fail
 have HB:=hid_of (bstart w (.cells #[.int .i64 x0,.int .i64 x1,.int .i64 x2,.int .i64 x3,.slice a n cap] 34))
 generalize w.alloc (.cells #[.int .i64 x0,.int .i64 x1,.int .i64 x2,.int .i64 x3,.slice a n cap] 34)=W1 at HB ⊢
 refine (heldIntS_same a n cap k W1 (HC.out.called HB.out) hn h0 h1).mono ?_
 rintro e w2 ⟨rfl,hB2⟩
 have HB2:=hid_of (bnext HB.out hB2)
 clear hB2
 go_wp2_with fail
 go_ret
 exact⟨rfl,HB2.out⟩
end
end Go.Proofs.YtkpbfmdnjnohlaaGreat
