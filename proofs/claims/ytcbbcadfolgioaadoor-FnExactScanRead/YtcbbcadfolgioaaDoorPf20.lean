/-
  Texts of the proof, put together.
-/
import Derived.Test.YtcbbcadfolgioaaDoorPf19
namespace Go.Proofs.YtcbbcadfolgioaaDoor
section
open Go.RowKit Go.Joins RastMath PassMath
theorem passShape_any (W H x2 x3 p:Int) (v:Value) (w:World) (hG:GridG w):
  Calls Tryd.prog 36 #[.agg #[.int .i64 W,.int .i64 H,.int .i64 x2,.int .i64 x3,v],.int .i64 p] w fun e w'=>e=.returned (.agg #[.int .i64 (wideV W H p),.int .i64 (highV W H p),.int .i64 x2,.int .i64 x3,.slice none 0 0])∧Below w.heap.size w w':=by
 have hsz:=fun V (h:GridG V)=>passSize_any W H p V h
 generalize wideV W H p=A at *
 generalize highV W H p=B at *
 have HX:Hid (((w.alloc (.cells #[.int .i64 W,.int .i64 H,.int .i64 x2,.int .i64 x3,v] 26)).alloc (.cells #[.int .i64 0,.int .i64 0,.int .i64 0,.int .i64 0,.slice none 0 0] 26)).heap[w.heap.size]?=some (.cells #[.int .i64 W,.int .i64 H,.int .i64 x2,.int .i64 x3,v] 26 (0,0))):=
  (Below.heap_alloc (w.alloc _) _ _ (by simp)).trans (heap_alloc_new w _)
 have HZ:Hid (((w.alloc (.cells #[.int .i64 W,.int .i64 H,.int .i64 x2,.int .i64 x3,v] 26)).alloc (.cells #[.int .i64 0,.int .i64 0,.int .i64 0,.int .i64 0,.slice none 0 0] 26)).heap[w.heap.size+1]?=some (.cells #[.int .i64 0,.int .i64 0,.int .i64 0,.int .i64 0,.slice none 0 0] 26 (0,0))):=by
  have:=heap_alloc_new (w.alloc (.cells #[.int .i64 W,.int .i64 H,.int .i64 x2,.int .i64 x3,v] 26)) (.cells #[.int .i64 0,.int .i64 0,.int .i64 0,.int .i64 0,.slice none 0 0] 26)
  rw[show (w.alloc (.cells #[.int .i64 W,.int .i64 H,.int .i64 x2,.int .i64 x3,v] 26)).heap.size=w.heap.size+1 by simp] at this
  exact this
 have HB:=hid_of (bal (bstart w (.cells #[.int .i64 W,.int .i64 H,.int .i64 x2,.int .i64 x3,v] 26)) (.cells #[.int .i64 0,.int .i64 0,.int .i64 0,.int .i64 0,.slice none 0 0] 26))
 have HG:=hid_of (hG.called HB.out)
 clear hG
 go_enter Tryd.func36,Tryd.ntmps36
 go_wp2_with fail
 generalize (w.alloc (.cells #[.int .i64 W,.int .i64 H,.int .i64 x2,.int .i64 x3,v] 26)).alloc (.cells #[.int .i64 0,.int .i64 0,.int .i64 0,.int .i64 0,.slice none 0 0] 26)=W1 at HX HZ HB HG ⊢
 refine (hsz W1 HG.out).mono ?_
 rintro e w1 ⟨rfl,hB1⟩
 have HX1:=hid_of ((hB1.block _ (block_lt HX.out)).trans HX.out)
 have HZ1:=hid_of ((hB1.block _ (block_lt HZ.out)).trans HZ.out)
 have HB1:=hid_of (bnext HB.out hB1)
 clear hB1 HX HZ HB HG hsz
 have k2:w1.cell? ⟨w.heap.size,2,none⟩=some (.int .i64 x2):=(cell_of_block HX1.out 2).trans rfl
 have k3:w1.cell? ⟨w.heap.size,3,none⟩=some (.int .i64 x3):=(cell_of_block HX1.out 3).trans rfl
 have lx:=block_lt HX1.out
 have z0:w1.cell? ⟨w.heap.size+1,0,none⟩=some (.int .i64 0):=(cell_of_block HZ1.out 0).trans rfl
 have z1:w1.cell? ⟨w.heap.size+1,1,none⟩=some (.int .i64 0):=(cell_of_block HZ1.out 1).trans rfl
 have z2:w1.cell? ⟨w.heap.size+1,2,none⟩=some (.int .i64 0):=(cell_of_block HZ1.out 2).trans rfl
 have z3:w1.cell? ⟨w.heap.size+1,3,none⟩=some (.int .i64 0):=(cell_of_block HZ1.out 3).trans rfl
 have z4:w1.cell? ⟨w.heap.size+1,4,none⟩=some (.slice none 0 0):=(cell_of_block HZ1.out 4).trans rfl
 have zf:∀ k,w1.frozen? ⟨w.heap.size+1,k,none⟩=false:=unfrozen_of_block HZ1.out
 have lz:=block_lt HZ1.out
 go_wp2_with fail
 refine bodyPost_ret (v:=.agg #[.int .i64 A,.int .i64 B,.int .i64 x2,.int .i64 x3,.slice none 0 0]) ?_ rfl ⟨rfl,?_⟩
 ·simp[results,Tryd.results36,go_sem, *]
 ·iterate 5 refine Below.setCell ?_ (by simp) _
  exact HB1.out
set_option maxHeartbeats 1600000 in
theorem hasShape_any (x0 x1 x2 x3 y0 y1 y2 y3:Int) (u v:Value) (w:World):
  Calls Tryd.prog 81 #[.agg #[.int .i64 x0,.int .i64 x1,.int .i64 x2,.int .i64 x3,u],.agg #[.int .i64 y0,.int .i64 y1,.int .i64 y2,.int .i64 y3,v]] w fun e w'=>e=.returned (.bool (decide (x0=y0∧x1=y1∧x2=y2∧x3=y3)))∧Below w.heap.size w w':=by
 have HB:=hid_of (bal (bstart w (.cells #[.int .i64 x0,.int .i64 x1,.int .i64 x2,.int .i64 x3,u] 26)) (.cells #[.int .i64 y0,.int .i64 y1,.int .i64 y2,.int .i64 y3,v] 26))
 obtain⟨b,hb⟩:∃ b,b=decide (x0=y0∧x1=y1∧x2=y2∧x3=y3):=⟨_,rfl⟩
 rw[← hb]
 by_cases h0:x0=y0
 ·have e0:(x0 == y0)=true:=by simpa using h0
  by_cases h1:x1=y1
  ·have e1:(x1 == y1)=true:=by simpa using h1
   by_cases h2:x2=y2
   ·have e2:(x2 == y2)=true:=by simpa using h2
    obtain rfl:b=decide (x3=y3):=by rw [hb]; exact decide_eq_decide.mpr ⟨fun h=>h.2.2.2,fun h=>⟨h0,h1,h2,h⟩⟩
    clear hb h0 h1 h2
    by_cases h3:x3=y3
    ·have e3:(x3 == y3)=true:=by simpa using h3
     rw[decide_eq_true h3]
     clear h3
     go_enter Tryd.func81,Tryd.ntmps81
     go_wp2_with fail
     go_ret
     exact⟨rfl,HB.out⟩
    ·have e3:(x3 == y3)=false:=by simpa using h3
     rw[decide_eq_false h3]
     clear h3
     go_enter Tryd.func81,Tryd.ntmps81
     go_wp2_with fail
     go_ret
     exact⟨rfl,HB.out⟩
   ·have e2:(x2 == y2)=false:=by simpa using h2
    obtain rfl:b=false:=by rw [hb]; exact decide_eq_false fun h=>h2 h.2.2.1
    clear hb h0 h1 h2
    go_enter Tryd.func81,Tryd.ntmps81
    go_wp2_with fail
    go_ret
    exact⟨rfl,HB.out⟩
  ·have e1:(x1 == y1)=false:=by simpa using h1
   obtain rfl:b=false:=by rw [hb]; exact decide_eq_false fun h=>h1 h.2.1
   clear hb h0 h1
   go_enter Tryd.func81,Tryd.ntmps81
   go_wp2_with fail
   go_ret
   exact⟨rfl,HB.out⟩
 ·have e0:(x0 == y0)=false:=by simpa using h0
  obtain rfl:b=false:=by rw [hb]; exact decide_eq_false fun h=>h0 h.1
  clear hb h0
  go_enter Tryd.func81,Tryd.ntmps81
  go_wp2_with fail
  go_ret
  exact⟨rfl,HB.out⟩
end
section
open Go.RowKit Go.Joins
def PsI (w w':World) (bx:Array Value) (gl p:Nat) (R:Nat→Ras):Prop:=
 w'.heap[w.heap.size]?=some (.cells bx 26 (0,0))∧
 (∃ (A:Nat→Option Addr) (G C:Nat→Nat) (cur:Array Value),w.heap.size+1≤gl∧w'.heap[gl]?=some (.cells cur 26 (0,0))∧cur.size=35∧(∀ j,j < p→HeadAt cur (j * 5) (R j) (A j) (C j))∧
  (∀ j,j < p→RowOwn w' w.heap.size (A j) (G j) (R j).n (C j) (R j).f)∧(∀ j,j < p→0 < (R j).n→G j≠gl)∧∀ i j,i < p→j < p→i≠j→0 < (R i).n→0 < (R j).n→G i≠G j)∧
 Below w.heap.size w w'
def PsQ (w w':World) (bx:Array Value) (gl p:Nat) (R:Nat→Ras) (a0 a1 a2 a3:Int):Prop:=
 PsI w w' bx gl p R∧w'.cell? ⟨gl,p * 5,none⟩=some (.int .i64 a0)∧w'.cell? ⟨gl,p * 5+1,none⟩=some (.int .i64 a1)∧w'.cell? ⟨gl,p * 5+2,none⟩=some (.int .i64 a2)∧w'.cell? ⟨gl,p * 5+3,none⟩=some (.int .i64 a3)
section
variable {w w' w2:World} {bx:Array Value} {gl p:Nat} {R:Nat→Ras} {a0 a1 a2 a3:Int}
theorem PsI.lt (h:PsI w w' bx gl p R):gl < w'.heap.size∧w.heap.size < gl:=by
 obtain⟨_,⟨A,G,C,cur,h1,h2,_⟩,_⟩:=h
 exact⟨block_lt h2,h1⟩
theorem PsI.called (h:PsI w w' bx gl p R) (hb:Below w'.heap.size w' w2):PsI w w2 bx gl p R:=by
 obtain⟨h0,⟨A,G,C,cur,h1,h2,h3,h4,h5,h6,h7⟩,h8⟩:=h
 refine⟨(hb.block _ (block_lt h0)).trans h0,⟨A,G,C,cur,h1,(hb.block _ (block_lt h2)).trans h2,h3,h4,fun j hj=>(h5 j hj).keep (fun hn=>hb.block _ ((h5 j hj).lt hn).1),h6,h7⟩,bnext h8 hb⟩
theorem PsQ.called (h:PsQ w w' bx gl p R a0 a1 a2 a3) (hb:Below w'.heap.size w' w2):PsQ w w2 bx gl p R a0 a1 a2 a3:=by
 have hl:=h.1.lt.1
 obtain⟨h0,h1,h2,h3,h4⟩:=h
 exact⟨h0.called hb,(hb.cell (p:=⟨gl,p * 5,none⟩) hl).trans h1,(hb.cell (p:=⟨gl,p * 5+1,none⟩) hl).trans h2,(hb.cell (p:=⟨gl,p * 5+2,none⟩) hl).trans h3,(hb.cell (p:=⟨gl,p * 5+3,none⟩) hl).trans h4⟩
theorem PsI.cell (h:PsI w w' bx gl p R) (k:Nat) (hk:k < 35):(∃ z,w'.cell? ⟨gl,k,none⟩=some z)∧w'.frozen? ⟨gl,k,none⟩=false:=by
 obtain⟨_,⟨A,G,C,cur,h1,h2,h3,_⟩,_⟩:=h
 refine⟨?_,unfrozen_of_block h2 k⟩
 rw[cell_of_block h2 k,Array.getElem?_eq_getElem (by omega)]
 exact⟨_,rfl⟩
theorem PsI.set (h:PsI w w' bx gl p R) (k:Nat) (hk:p * 5≤k) (v:Value):PsI w (w'.setCell ⟨gl,k,none⟩ v) bx gl p R:=by
 obtain⟨h0,⟨A,G,C,cur,h1,h2,h3,h4,h5,h6,h7⟩,h8⟩:=h
 refine⟨(heap_setCell_other w' ⟨gl,k,none⟩ _ _ (by show ¬ w.heap.size=gl; omega)).trans h0,⟨A,G,C,cur.setIfInBounds k v,h1,block_setCell (i:=k) h2 v,by simpa using h3,fun j hj=>?_,fun j hj=>(h5 j hj).keep (fun hn=>heap_setCell_other w' ⟨gl,k,none⟩ _ _ (h6 j hj hn)),h6,h7⟩,Below.setCell (p:=⟨gl,k,none⟩) h8 (by show w.heap.size≤gl; omega) _⟩
 have e:∀ i,i < p * 5→(cur.setIfInBounds k v)[i]?=cur[i]?:=fun i hi=>Array.getElem?_setIfInBounds_ne (by omega)
 have q:=h4 j hj
 unfold HeadAt at q ⊢
 rw[e _ (by omega),e _ (by omega),e _ (by omega),e _ (by omega),e _ (by omega)]
 exact q
theorem PsI.shape (h:PsI w w' bx gl p R) (hp:p < 7) (v:Value):PsQ w (((((w'.setCell ⟨gl,p * 5,none⟩ (.int .i64 a0)).setCell ⟨gl,p * 5+1,none⟩ (.int .i64 a1)).setCell ⟨gl,p * 5+2,none⟩ (.int .i64 a2)).setCell ⟨gl,p * 5+3,none⟩ (.int .i64 a3)).setCell ⟨gl,p * 5+4,none⟩ v) bx gl p R a0 a1 a2 a3:=by
 have h0:=h.set (p * 5) (Nat.le_refl _) (.int .i64 a0)
 have h1:=h0.set (p * 5+1) (by omega) (.int .i64 a1)
 have h2:=h1.set (p * 5+2) (by omega) (.int .i64 a2)
 have h3:=h2.set (p * 5+3) (by omega) (.int .i64 a3)
 have h4:=h3.set (p * 5+4) (by omega) v
 refine⟨h4,?_⟩
 obtain⟨_,⟨A,G,C,cur,_,q2,q3,_⟩,_⟩:=h
 have b0:=block_setCell (i:=p * 5) q2 (.int .i64 a0)
 have b1:=block_setCell (i:=p * 5+1) b0 (.int .i64 a1)
 have b2:=block_setCell (i:=p * 5+2) b1 (.int .i64 a2)
 have b3:=block_setCell (i:=p * 5+3) b2 (.int .i64 a3)
 have b4:=block_setCell (i:=p * 5+4) b3 v
 refine⟨(cell_of_block b4 _).trans ?_,(cell_of_block b4 _).trans ?_,(cell_of_block b4 _).trans ?_,(cell_of_block b4 _).trans ?_⟩
 all_goals
  simp[Array.getElem?_setIfInBounds,q3]
  omega
theorem PsQ.next (h:PsQ w w' bx gl p R a0 a1 a2 a3) {S K:Nat} {F:Nat→Int} {B:Nat} (hp:p < 7) (hR:R p=⟨a0,a1,a2,a3,K,F⟩) (hO:IOwn w' B S K K F) (hB:w.heap.size≤B) (hgl:gl < B) (hK:K≤maxLen) (hold:∃ w4:World,w4.heap.size=B∧PsQ w w4 bx gl p R a0 a1 a2 a3∧Below B w4 w'):PsI w (w'.setCell ⟨gl,p * 5+4,none⟩ (.slice (some ⟨S,0,none⟩) K K)) bx gl (p+1) R:=by
 obtain⟨w4,rfl,hq,hb4⟩:=hold
 have hS:=hO.base_le
 obtain⟨⟨g0,⟨A,G,C,cur,g1,g2,g3,g4,g5,g6,g7⟩,g8⟩,c0,c1,c2,c3⟩:=hq
 have hk:∀ b,b < w4.heap.size→b≠gl→(w'.setCell ⟨gl,p * 5+4,none⟩ (.slice (some ⟨S,0,none⟩) K K)).heap[b]?=w4.heap[b]?:=fun b hb hbn=>
  (heap_setCell_other w' ⟨gl,p * 5+4,none⟩ _ _ hbn).trans (hb4.block b hb)
 have g2':w'.heap[gl]?=some (.cells cur 26 (0,0)):=(hb4.block _ hgl).trans g2
 rw[cell_of_block g2] at c0 c1 c2 c3
 refine⟨(hk _ (block_lt g0) (by omega)).trans g0,⟨fun i=>if i=p then some ⟨S,0,none⟩ else A i,fun i=>if i=p then S else G i,fun i=>if i=p then K else C i,_,g1,block_setCell (i:=p * 5+4) g2' _,by simpa using g3,fun j hj=>?_,fun j hj=>?_,fun j hj hn=>?_,fun i j hi hj hij hni hnj=>?_⟩,?_⟩
 ·by_cases e:j=p
  ·subst e
   simp only [if_pos]
   rw[hR]
   refine⟨?_,?_,?_,?_,?_⟩
   ·rw[Array.getElem?_setIfInBounds_ne (by omega)]; exact c0
   ·rw[Array.getElem?_setIfInBounds_ne (by omega)]; exact c1
   ·rw[Array.getElem?_setIfInBounds_ne (by omega)]; exact c2
   ·rw[Array.getElem?_setIfInBounds_ne (by omega)]; exact c3
   ·rw[Array.getElem?_setIfInBounds_self_of_lt (by omega)]
  ·simp only [if_neg e]
   have q:=g4 j (by omega)
   unfold HeadAt at q ⊢
   rw[Array.getElem?_setIfInBounds_ne (by omega),Array.getElem?_setIfInBounds_ne (by omega),Array.getElem?_setIfInBounds_ne (by omega),Array.getElem?_setIfInBounds_ne (by omega),Array.getElem?_setIfInBounds_ne (by omega)]
   exact q
 ·by_cases e:j=p
  ·subst e
   simp only [if_pos]
   rw[hR]
   refine⟨Nat.le_refl _,hK,.inr ⟨rfl,?_⟩⟩
   refine (hO.mono hB).keep (heap_setCell_other w' ⟨gl,j * 5+4,none⟩ _ _ (by show ¬ S=gl; omega))
  ·simp only [if_neg e]
   have q:=g5 j (by omega)
   exact q.keep (fun hn=>hk _ (q.lt hn).1 (g6 j (by omega) hn))
 ·by_cases e:j=p
  ·subst e
   simp only [if_pos]
   omega
  ·simp only [if_neg e]
   exact g6 j (by omega) hn
 ·by_cases e:i=p
  ·subst e
   simp only [if_pos,if_neg (fun h:j=i=>hij h.symm)]
   have:=((g5 j (by omega)).lt hnj).1
   omega
  ·by_cases e2:j=p
   ·subst e2
    simp only [if_pos,if_neg e]
    have:=((g5 i (by omega)).lt hni).1
    omega
   ·simp only [if_neg e,if_neg e2]
    exact g7 i j (by omega) (by omega) hij hni hnj
 ·exact Below.setCell (p:=⟨gl,p * 5+4,none⟩) (g8.trans (hb4.mono (by omega))) (by show w.heap.size≤gl; omega) _
theorem PsI.out (h:PsI w w' bx gl 7 R):RSL w' w.heap.size (some ⟨gl,0,none⟩) 7 R:=by
 obtain⟨_,⟨A,G,C,cur,h1,h2,h3,h4,h5,h6,h7⟩,_⟩:=h
 exact .inr ⟨gl,rfl,A,G,C,by omega,⟨cur,h2,by omega,h4⟩,h5,h6,h7⟩
end
end
end Go.Proofs.YtcbbcadfolgioaaDoor
