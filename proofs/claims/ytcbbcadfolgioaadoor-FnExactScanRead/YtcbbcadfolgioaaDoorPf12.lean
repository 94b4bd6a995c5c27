/-
  Texts of the proof, put together.
-/
import Derived.Test.YtcbbcadfolgioaaDoorPf11
import Derived.Test.YtcbbcadfolgioaaDoorPf07
namespace Go.Proofs.YtcbbcadfolgioaaDoor
section
open Go.RowKit RastMath PassMath
theorem specFrom_any (W H:Int) (a:Option Addr) (m c:Nat) (R:Nat→Ras) (w:World) (hC:RCame w a m R) (hn:∀ j,j < m→(R j).n≤1048576):
  Calls Tryd.prog 27 #[.int .i64 W,.int .i64 H,.slice a m c] w (FromPost W H m R w):=by
 by_cases hW:SideR W
 ·by_cases hH:SideR H
  ·by_cases hm:m=7
   ·subst hm
    by_cases hD:DepthR (R 0).x2 (R 0).x3
    ·have c1:=chan_pos hD
     have c2:=chan_range (R 0).x2
     unfold SideR at hW hH
     obtain⟨x,rfl⟩:∃ x:Nat,W=(x:Int):=⟨W.toNat,by omega⟩
     obtain⟨y,rfl⟩:∃ y:Nat,H=(y:Int):=⟨H.toNat,by omega⟩
     obtain⟨z,hz⟩:∃ z:Nat,chan (R 0).x2=(z:Int):=⟨(chan (R 0).x2).toNat,by omega⟩
     exact specFrom_main x y z a c R w hC (by omega) (by omega) hD hz (by omega) hn
    ·exact (specFrom_depth W H a c R w hC hW hH hD).mono fun _ _ ⟨q1,q2⟩=>⟨.inr ⟨fun h=>hD h.first.2.2.2,q1⟩,q2⟩
   ·exact (specFrom_many W H a m c w hW hH hm).mono fun _ _ ⟨q1,q2⟩=>⟨.inr ⟨fun h=>hm h.first.2.2.1,q1⟩,q2⟩
  ·exact (specFrom_side2 W H _ w hW hH).mono fun _ _ ⟨q1,q2⟩=>⟨.inr ⟨fun h=>hH h.first.2.1,q1⟩,q2⟩
 ·exact (specFrom_side W H _ w hW).mono fun _ _ ⟨q1,q2⟩=>⟨.inr ⟨fun h=>hW h.first.1,q1⟩,q2⟩
end
section
open Go.RowKit Go.Joins
def PtI (w w':World) (bx:Array Value) (R:Nat→Ras) (gl cl p:Nat):Prop:=
 w'.heap[w.heap.size]?=some (.cells bx 26 (0,0))∧
 (∃ (A:Nat→Option Addr) (G C:Nat→Nat),w'.ownsRow (w.heap.size+1) 26 5 (.slice (some ⟨gl,0,none⟩) p cl) p (rcells R A C p)∧(∀ j,j < p→RowOwn w' (w.heap.size+1) (A j) (G j) (R j).n (C j) (R j).f)∧∀ j,j < p→0 < (R j).n→G j≠gl)∧
 Below w.heap.size w w'
theorem RowI.called {w1 w' w2:World} {x0 x1 x2 x3:Int} {F:Nat→Int} {k:Nat} (h:RowI w1 w' x0 x1 x2 x3 F k) (hb:Below w'.heap.size w' w2):RowI w1 w2 x0 x1 x2 x3 F k:=by
 obtain⟨v,h1,h2,h3⟩:=h
 refine⟨v,(hb.block _ (block_lt h1)).trans h1,⟨h2.1,?_⟩,bnext h3 hb⟩
 rcases h2.2 with q | ⟨g,c,cur,e,q1,q2,q3⟩
 ·exact .inl q
 ·exact .inr ⟨g,c,cur,e,q1,(hb.block _ (block_lt q2)).trans q2,q3⟩
theorem ptI_next {w w1 w5 w6:World} {bx:Array Value} {R:Nat→Ras} {vr:Value} {gl cl p g' cap':Nat} {A:Nat→Option Addr} {G C:Nat→Nat} {o:Obj}
  (hbx:w1.heap[w.heap.size]?=some (.cells bx 26 (0,0)))
  (hL:w1.ownsRow (w.heap.size+1) 26 5 (.slice (some ⟨gl,0,none⟩) p cl) p (rcells R A C p)) (hR:∀ j,j < p→RowOwn w1 (w.heap.size+1) (A j) (G j) (R j).n (C j) (R j).f) (hne:∀ j,j < p→0 < (R j).n→G j≠gl) (hB1:Below w.heap.size w w1)
  (hO:w5.ownsRow (w1.heap.size+1) 3 1 vr (R p).n (fints (R p).f (R p).n)) (hB:Below w1.heap.size w1 w5)
  (hA:w6.ownsRow (w.heap.size+1) 26 5 (.slice (some ⟨g',0,none⟩) (p+1) cap') (p+1) (rcells R A C p ++ [.int .i64 (R p).x0,.int .i64 (R p).x1,.int .i64 (R p).x2,.int .i64 (R p).x3,vr])) (hg:(w5.alloc o).grownBy w6 (some gl)) (hgg:some gl=some g'∨g'=(w5.alloc o).heap.size):PtI w w6 bx R g' cap' (p+1):=by
 have hgl:w.heap.size+1≤gl:=own_block_le hL gl rfl
 have hglt:gl < w1.heap.size:=by
  rcases hL.2 with ⟨e,_⟩ | ⟨g,c,cur,e,_,q,_⟩
  ·cases e
  ·cases e
   exact block_lt q
 have hsz:(w5.alloc o).heap.size=w5.heap.size+1:=by simp
 have hblk:∀ b,b < w1.heap.size→b≠gl→w6.heap[b]?=w1.heap[b]?:=fun b hb hbn=>by
  have h5:b < w5.heap.size:=Nat.lt_of_lt_of_le hb hB.size
  rw[hg.block b (by rw [hsz]; omega) (fun e=>hbn (Option.some.inj e)),Below.heap_alloc w5 o b h5]
  exact hB.block b hb
 have hblk5:∀ b,b < w5.heap.size→b≠gl→w6.heap[b]?=w5.heap[b]?:=fun b hb hbn=>by
  rw[hg.block b (by rw [hsz]; omega) (fun e=>hbn (Option.some.inj e)),Below.heap_alloc w5 o b hb]
 have hs1:=hB1.size
 obtain⟨ar,Gr,cr,rfl,hrow,hGr⟩:=row_of_owns hO
 have ecell:rcells R (fun i=>if i=p then ar else A i) (fun i=>if i=p then cr else C i) (p+1)=rcells R A C p ++ [.int .i64 (R p).x0,.int .i64 (R p).x1,.int .i64 (R p).x2,.int .i64 (R p).x3,.slice ar (R p).n cr]:=by
  rw[rcells_succ,rcells_congr (A':=A) (C':=C) _ p (fun j hj=>by simp [show ¬ j=p by omega])]
  simp only [if_pos]
 refine⟨(hblk _ (by have:=block_lt hbx; omega) (by omega)).trans hbx,⟨_,fun i=>if i=p then Gr else G i,_,by rw [ecell]; exact hA,fun j hj=>?_,fun j hj hn=>?_⟩,?_⟩
 ·by_cases e:j=p
  ·subst e
   simp only [if_pos]
   refine (show RowOwn w5 (w.heap.size+1) ar Gr (R j).n cr (R j).f from ⟨hrow.1,hrow.2.1,?_⟩).keep (fun hn=>hblk5 _ (hrow.lt hn).1 (by have:=hGr hn; omega))
   rcases hrow.2.2 with q | ⟨q1,q2⟩
   ·exact .inl q
   ·exact .inr ⟨q1,q2.mono (by omega)⟩
  ·simp only [if_neg e]
   exact (hR j (by omega)).keep (fun hn=>hblk _ ((hR j (by omega)).lt hn).1 (hne j (by omega) hn))
 ·by_cases e:j=p
  ·subst e
   simp only [if_pos]
   have h1:=hGr hn
   have h2:=(hrow.lt hn).1
   rcases hgg with q | q
   ·have:=Option.some.inj q
    omega
   ·omega
  ·simp only [if_neg e]
   have h1:=hne j (by omega) hn
   have h2:=((hR j (by omega)).lt hn).1
   have h3:=hB.size
   rcases hgg with q | q
   ·rw[← Option.some.inj q]
    exact h1
   ·omega
 ·refine⟨?_,?_,?_,?_,fun b hb=>?_⟩
  ·exact hg.os.trans (hB.os.trans hB1.os)
  ·exact hg.tape.trans (hB.tape.trans hB1.tape)
  ·exact hg.output.trans (hB.output.trans hB1.output)
  ·have:=hg.size
   have:=hB.size
   omega
  ·rw[hblk b (by omega) (by omega)]
   exact hB1.block b hb
theorem PtI.out {w w':World} {bx:Array Value} {R:Nat→Ras} {gl cl p:Nat} (h:PtI w w' bx R gl cl p):RCame w' (some ⟨gl,0,none⟩) p R:=by
 obtain⟨_,⟨A,G,C,hL,hR,_⟩,_⟩:=h
 rcases hL.2 with ⟨e,_⟩ | ⟨g,c,cur,e,h1,h2,h3,h4,h5,h6⟩
 ·cases e
 ·cases e
  refine .inr ⟨gl,0,A,C,rfl,block_lt h2,fun j hj=>⟨?_,(hR j hj).came,(hR j hj).1,(hR j hj).2.1⟩⟩
  have hc:∀ k,k < p * 5→w'.cell? ⟨gl,k,none⟩=(rcells R A C p)[k]?:=fun k hk=>by
   rw[cell_of_block h2 k,← h6,List.getElem?_take,if_pos hk]
   simp
  have q:=rcells_get R A C p j hj
  unfold RasAt
  rw[Nat.zero_add,hc _ (by omega),hc _ (by omega),hc _ (by omega),hc _ (by omega),hc _ (by omega)]
  exact q
end
section
open Go.RowKit Go.Joins OutMath PutMath
def u8s (xs:List Int):List Value:=xs.map (Value.int .u8)
theorem u8s_length (ys:List Int):(u8s ys).length=ys.length:=by simp [u8s]
end
section
open Go.RowKit Go.Joins RastMath ScanMath
theorem specUnit (c:Int) (N D:Nat) (w:World) (hN:chan c=(N:Int)) (hN4:N≤4) (hD:D≤16):
  Calls Tryd.prog 70 #[.int .i64 c,.int .i64 (D:Int)] w fun e w'=>e=.returned (.int .i64 (unitN N D:Int))∧w'=w:=by
 have hc:=fun V=>specChannels c V
 rw[hN] at hc
 obtain⟨P,hP⟩:∃ P,P=N * D:=⟨_,rfl⟩
 have hPb:P≤64:=by rw [hP]; exact Nat.mul_le_mul hN4 hD
 have e1:(N:Int) * (D:Int)=(P:Int):=by rw [hP]; simp
 unfold unitN
 rw[← hP]
 clear hP hN
 by_cases h:P / 8 < 1
 ·rw[if_pos h]
  have d1:(P:Int) / 8 < 1:=by omega
  clear h
  go_enter Tryd.func70,Tryd.ntmps70
  go_wp2_with fail
  refine (hc _).mono ?_
  rintro e w1 ⟨rfl,rfl⟩
  go_wp2_with fail
  go_ret
  exact⟨rfl,rfl⟩
 ·rw[if_neg h]
  have d1:¬ (P:Int) / 8 < 1:=by omega
  clear h
  go_enter Tryd.func70,Tryd.ntmps70
  go_wp2_with fail
  refine (hc _).mono ?_
  rintro e w1 ⟨rfl,rfl⟩
  go_wp2_with fail
  go_ret
  exact⟨by go_num,rfl⟩
theorem info_u15:(Tryd.prog.info? 5).map (fun i=>(i.zero,i.size,i.bytes))=some (some (.int .u8 0),1,1):=by kernel_rfl
theorem made_u15 (n:Nat):(madeCells #[Value.int .u8 0] n).toList=u8s (List.replicate n 0):=by
 unfold madeCells u8s
 rw[List.map_replicate,Array.toList_map,Array.toList_range]
 refine List.ext_getElem (by simp) fun i h1 h2=>?_
 simp[Nat.mod_one]
theorem make_bytes (w:World) (n:Nat) (hn:n≤1048576):(Instr.makeSlice 22 (.int .i64 n) (.int .i64 n)).run Tryd.prog w=.ok (.slice (some ⟨w.heap.size,0,none⟩) n n) (w.alloc (.cells (madeCells #[Value.int .u8 0] n) 5)):=by
 obtain⟨i0,hi0,hz0,hz1,hz2⟩:=info_parts info_u15
 have h:=run_make (P:=Tryd.prog) w 22 5 i0 (.int .u8 0) Tryd.underlying22 hi0 hz0 .i64 .i64 n n (by omega) (by omega) (by rw [hz2]; omega) (by omega)
 rw[hz1,Int.toNat_natCast,Nat.mul_one] at h
 exact h
theorem own_made15 (w:World) (n:Nat) (hn:n≤1048576):Own 5 (w.alloc (.cells (madeCells #[Value.int .u8 0] n) 5)) w.heap.size w.heap.size (.slice (some ⟨w.heap.size,0,none⟩) n n) (u8s (List.replicate n 0)):=by
 have hl:(u8s (List.replicate n 0)).length=n:=by rw [u8s_length]; simp
 refine⟨n,madeCells #[Value.int .u8 0] n,(0,0),by rw [hl],Nat.le_refl _,heap_alloc_new w _,.inl rfl,by omega,by unfold maxLen; omega,by simp [madeCells],?_⟩
 rw[made_u15,hl,List.take_of_length_le (by omega)]
set_option maxHeartbeats 800000 in
theorem specZeros (n:Nat) (w:World) (hn1:n≤20000):
  Calls Tryd.prog 68 #[.int .i64 n,.int .u8 0] w fun e w'=>e=.returned (.string (zeroT n))∧Below w.heap.size w w':=by
 have hm:=make_bytes w n (by omega)
 have H0:Hid (Own 5 (w.alloc (.cells (madeCells #[Value.int .u8 0] n) 5)) w.heap.size w.heap.size (.slice (some ⟨w.heap.size,0,none⟩) n n) (u8s (List.replicate n 0))∧Below w.heap.size w (w.alloc (.cells (madeCells #[Value.int .u8 0] n) 5))):=⟨own_made15 w n (by omega),bstart _ _⟩
 generalize w.alloc (.cells (madeCells #[Value.int .u8 0] n) 5)=W1 at hm H0
 go_enter Tryd.func68,Tryd.ntmps68
 go_wp2_with fail
 clear hm
 go_loopg [6] (n+1) (fun gk i w'=>∃ j:Nat,j≤n∧n - j≤gk∧i=.int .i64 (j:Int)∧Hid (Own 5 w' w.heap.size w.heap.size (.slice (some ⟨w.heap.size,0,none⟩) n n) (u8s (List.replicate n 0))∧Below w.heap.size w w'))
 case atStart=>exact⟨0,Nat.zero_le _,by omega,rfl,H0⟩
 case round=>
  clear H0
  obtain⟨j,hj,hgk,rfl,hJ⟩:=hrel
  by_cases hlt:j < n
  ·have dl:decide ((j:Int) < (n:Int))=true:=decide_eq_true (by omega)
   have hl:j < (u8s (List.replicate n 0)).length:=by rw [u8s_length]; simpa using hlt
   have c1:wr.cell? ⟨w.heap.size,j,none⟩=some (.int .u8 0):=by
    rw[hJ.out.1.cell j hl]
    simp[u8s]
   have f1:=hJ.out.1.free j hl
   have l1:=hJ.out.1.lt
   have HN:Hid (Own 5 (wr.setCell ⟨w.heap.size,j,none⟩ (.int .u8 0)) w.heap.size w.heap.size (.slice (some ⟨w.heap.size,0,none⟩) n n) (u8s (List.replicate n 0))∧Below w.heap.size w (wr.setCell ⟨w.heap.size,j,none⟩ (.int .u8 0))):=by
    refine⟨?_,Below.setCell (p:=⟨w.heap.size,j,none⟩) hJ.out.2 (Nat.le_refl _) _⟩
    have q:=hJ.out.1.set j hl (.int .u8 0)
    have e:(u8s (List.replicate n 0)).set j (.int .u8 0)=u8s (List.replicate n 0):=by
     refine List.ext_getElem (by simp) fun i h1 h2=>?_
     rw[List.getElem_set]
     simp[u8s]
    rw[e] at q
    exact q
   clear hJ hl
   go_wp2_with fail
   go_roundg (n - (j+1))
   case measure=>omega
   case rel=>exact⟨j+1,by omega,Nat.le_refl _,by go_num,HN⟩
  ·have kc:=own_string (P:=Tryd.prog) (List.replicate n 0) 22 9 Tryd.underlying22 Tryd.underlying5 Tryd.underlying9 hJ.out.1
   go_wp2_with fail
   go_ret
   exact⟨rfl,hJ.out.2⟩
end
section
open Go.RowKit Go.Joins OutMath TakeMath RastMath FiltMath ScanMath
theorem ras_five {w:World} {b:Nat} {v0 v1 v2 v3 v4:Value} (h:w.heap[b]?=some (.cells #[v0,v1,v2,v3,v4] 26 (0,0))):w.cell? ⟨b,0,none⟩=some v0∧w.cell? ⟨b,1,none⟩=some v1∧w.cell? ⟨b,2,none⟩=some v2∧w.cell? ⟨b,3,none⟩=some v3∧w.cell? ⟨b,4,none⟩=some v4∧b < w.heap.size:=
 ⟨(cell_of_block h 0).trans rfl,(cell_of_block h 1).trans rfl,(cell_of_block h 2).trans rfl,(cell_of_block h 3).trans rfl,(cell_of_block h 4).trans rfl,block_lt h⟩
section
variable {w w' w2:World} {bx:Array Value} {g k cap:Nat} {xs:List Int}
theorem BR.base_le {S:Nat} (h:BR w S g k cap xs):S≤g:=by
 rcases h.1.2 with ⟨q,_⟩ | ⟨g',c',cur,q,h1,_⟩
 ·cases q
 ·cases q
  exact h1
end
end
end Go.Proofs.YtcbbcadfolgioaaDoor
