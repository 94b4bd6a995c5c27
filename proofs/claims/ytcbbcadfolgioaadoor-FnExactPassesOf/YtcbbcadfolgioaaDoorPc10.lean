/-
  Texts of the proof, put together.
-/
import Derived.Test.YtcbbcadfolgioaaDoorPc03
namespace Go.Proofs.YtcbbcadfolgioaaDoor
section
open Go.RowKit Go.Joins
def PsI (w w':World) (bx:Array Value) (gl p:Nat) (R:Nat→Ras):Prop:=
 w'.heap[w.heap.size]?=some (.cells bx 26 (0,0))∧
 (∃ (A:Nat→Option Addr) (G C:Nat→Nat) (cur:Array Value),w.heap.size+1≤gl∧w'.heap[gl]?=some (.cells cur 26 (0,0))∧cur.size=35∧(∀ j,j < p→HeadAt cur (j * 5) (R j) (A j) (C j))∧
  (∀ j,j < p→RowOwn w' w.heap.size (A j) (G j) (R j).n (C j) (R j).f)∧(∀ j,j < p→0 < (R j).n→G j≠gl)∧∀ i j,i < p→j < p→i≠j→0 < (R i).n→0 < (R j).n→G i≠G j)∧
 Below w.heap.size w w'
def PsQ (w w':World) (bx:Array Value) (gl p:Nat) (R:Nat→Ras) (a0 a1 a2 a3:Int):Prop:=
 PsI w w' bx gl p R∧w'.cell? ⟨gl,p * 5,none⟩=some (.int .i64 a0)∧w'.cell? ⟨gl,p * 5+1,none⟩=some (.int .i64 a1)∧w'.cell? ⟨gl,p * 5+2,none⟩=some (.int .i64 a2)∧w'.cell? ⟨gl,p * 5+3,none⟩=some (.int .i64 a3)
section
variable {w w' w2:World} {bx:Array Value} {gl p:Nat} {R:Nat→Ras} {a0 a1 a2 a3:Int}
theorem PsI.lt (h:PsI w w' bx gl p R):gl < w'.heap.size∧w.heap.size < gl:=by
 obtain⟨_,⟨A,G,C,cur,h1,h2,_⟩,_⟩:=h
 exact⟨block_lt h2,h1⟩
theorem PsI.called (h:PsI w w' bx gl p R) (hb:Below w'.heap.size w' w2):PsI w w2 bx gl p R:=by
 obtain⟨h0,⟨A,G,C,cur,h1,h2,h3,h4,h5,h6,h7⟩,h8⟩:=h
 refine⟨(hb.block _ (block_lt h0)).trans h0,⟨A,G,C,cur,h1,(hb.block _ (block_lt h2)).trans h2,h3,h4,fun j hj=>(h5 j hj).keep (fun hn=>hb.block _ ((h5 j hj).lt hn).1),h6,h7⟩,bnext h8 hb⟩
theorem PsQ.called (h:PsQ w w' bx gl p R a0 a1 a2 a3) (hb:Below w'.heap.size w' w2):PsQ w w2 bx gl p R a0 a1 a2 a3:=by
 have hl:=h.1.lt.1
 obtain⟨h0,h1,h2,h3,h4⟩:=h
 exact⟨h0.called hb,(hb.cell (p:=⟨gl,p * 5,none⟩) hl).trans h1,(hb.cell (p:=⟨gl,p * 5+1,none⟩) hl).trans h2,(hb.cell (p:=⟨gl,p * 5+2,none⟩) hl).trans h3,(hb.cell (p:=⟨gl,p * 5+3,none⟩) hl).trans h4⟩
theorem PsI.cell (h:PsI w w' bx gl p R) (k:Nat) (hk:k < 35):(∃ z,w'.cell? ⟨gl,k,none⟩=some z)∧w'.frozen? ⟨gl,k,none⟩=false:=by
 obtain⟨_,⟨A,G,C,cur,h1,h2,h3,_⟩,_⟩:=h
 refine⟨?_,unfrozen_of_block h2 k⟩
 rw[cell_of_block h2 k,Array.getElem?_eq_getElem (by omega)]
 exact⟨_,rfl⟩
theorem PsI.set (h:PsI w w' bx gl p R) (k:Nat) (hk:p * 5≤k) (v:Value):PsI w (w'.setCell ⟨gl,k,none⟩ v) bx gl p R:=by
 obtain⟨h0,⟨A,G,C,cur,h1,h2,h3,h4,h5,h6,h7⟩,h8⟩:=h
 refine⟨(heap_setCell_other w' ⟨gl,k,none⟩ _ _ (by show ¬ w.heap.size=gl; omega)).trans h0,⟨A,G,C,cur.setIfInBounds k v,h1,block_setCell (i:=k) h2 v,by simpa using h3,fun j hj=>?_,fun j hj=>(h5 j hj).keep (fun hn=>heap_setCell_other w' ⟨gl,k,none⟩ _ _ (h6 j hj hn)),h6,h7⟩,Below.setCell (p:=⟨gl,k,none⟩) h8 (by show w.heap.size≤gl; omega) _⟩
 have e:∀ i,i < p * 5→(cur.setIfInBounds k v)[i]?=cur[i]?:=fun i hi=>Array.getElem?_setIfInBounds_ne (by omega)
 have q:=h4 j hj
 unfold HeadAt at q ⊢
 rw[e _ (by omega),e _ (by omega),e _ (by omega),e _ (by omega),e _ (by omega)]
 exact q
theorem PsI.shape (h:PsI w w' bx gl p R) (hp:p < 7) (v:Value):PsQ w (((((w'.setCell ⟨gl,p * 5,none⟩ (.int .i64 a0)).setCell ⟨gl,p * 5+1,none⟩ (.int .i64 a1)).setCell ⟨gl,p * 5+2,none⟩ (.int .i64 a2)).setCell ⟨gl,p * 5+3,none⟩ (.int .i64 a3)).setCell ⟨gl,p * 5+4,none⟩ v) bx gl p R a0 a1 a2 a3:=by
 have h0:=h.set (p * 5) (Nat.le_refl _) (.int .i64 a0)
 have h1:=h0.set (p * 5+1) (by omega) (.int .i64 a1)
 have h2:=h1.set (p * 5+2) (by omega) (.int .i64 a2)
 have h3:=h2.set (p * 5+3) (by omega) (.int .i64 a3)
 have h4:=h3.set (p * 5+4) (by omega) v
 refine⟨h4,?_⟩
 obtain⟨_,⟨A,G,C,cur,_,q2,q3,_⟩,_⟩:=h
 have b0:=block_setCell (i:=p * 5) q2 (.int .i64 a0)
 have b1:=block_setCell (i:=p * 5+1) b0 (.int .i64 a1)
 have b2:=block_setCell (i:=p * 5+2) b1 (.int .i64 a2)
 have b3:=block_setCell (i:=p * 5+3) b2 (.int .i64 a3)
 have b4:=block_setCell (i:=p * 5+4) b3 v
 refine⟨(cell_of_block b4 _).trans ?_,(cell_of_block b4 _).trans ?_,(cell_of_block b4 _).trans ?_,(cell_of_block b4 _).trans ?_⟩
 all_goals
  simp[Array.getElem?_setIfInBounds,q3]
  omega
theorem PsQ.next (h:PsQ w w' bx gl p R a0 a1 a2 a3) {S K:Nat} {F:Nat→Int} {B:Nat} (hp:p < 7) (hR:R p=⟨a0,a1,a2,a3,K,F⟩) (hO:IOwn w' B S K K F) (hB:w.heap.size≤B) (hgl:gl < B) (hK:K≤maxLen) (hold:∃ w4:World,w4.heap.size=B∧PsQ w w4 bx gl p R a0 a1 a2 a3∧Below B w4 w'):PsI w (w'.setCell ⟨gl,p * 5+4,none⟩ (.slice (some ⟨S,0,none⟩) K K)) bx gl (p+1) R:=by
 obtain⟨w4,rfl,hq,hb4⟩:=hold
 have hS:=hO.base_le
 obtain⟨⟨g0,⟨A,G,C,cur,g1,g2,g3,g4,g5,g6,g7⟩,g8⟩,c0,c1,c2,c3⟩:=hq
 have hk:∀ b,b < w4.heap.size→b≠gl→(w'.setCell ⟨gl,p * 5+4,none⟩ (.slice (some ⟨S,0,none⟩) K K)).heap[b]?=w4.heap[b]?:=fun b hb hbn=>
  (heap_setCell_other w' ⟨gl,p * 5+4,none⟩ _ _ hbn).trans (hb4.block b hb)
 have g2':w'.heap[gl]?=some (.cells cur 26 (0,0)):=(hb4.block _ hgl).trans g2
 rw[cell_of_block g2] at c0 c1 c2 c3
 refine⟨(hk _ (block_lt g0) (by omega)).trans g0,⟨fun i=>if i=p then some ⟨S,0,none⟩ else A i,fun i=>if i=p then S else G i,fun i=>if i=p then K else C i,_,g1,block_setCell (i:=p * 5+4) g2' _,by simpa using g3,fun j hj=>?_,fun j hj=>?_,fun j hj hn=>?_,fun i j hi hj hij hni hnj=>?_⟩,?_⟩
 ·by_cases e:j=p
  ·subst e
   simp only [if_pos]
   rw[hR]
   refine⟨?_,?_,?_,?_,?_⟩
   ·rw[Array.getElem?_setIfInBounds_ne (by omega)]; exact c0
   ·rw[Array.getElem?_setIfInBounds_ne (by omega)]; exact c1
   ·rw[Array.getElem?_setIfInBounds_ne (by omega)]; exact c2
   ·rw[Array.getElem?_setIfInBounds_ne (by omega)]; exact c3
   ·rw[Array.getElem?_setIfInBounds_self_of_lt (by omega)]
  ·simp only [if_neg e]
   have q:=g4 j (by omega)
   unfold HeadAt at q ⊢
   rw[Array.getElem?_setIfInBounds_ne (by omega),Array.getElem?_setIfInBounds_ne (by omega),Array.getElem?_setIfInBounds_ne (by omega),Array.getElem?_setIfInBounds_ne (by omega),Array.getElem?_setIfInBounds_ne (by omega)]
   exact q
 ·by_cases e:j=p
  ·subst e
   simp only [if_pos]
   rw[hR]
   refine⟨Nat.le_refl _,hK,.inr ⟨rfl,?_⟩⟩
   refine (hO.mono hB).keep (heap_setCell_other w' ⟨gl,j * 5+4,none⟩ _ _ (by show ¬ S=gl; omega))
  ·simp only [if_neg e]
   have q:=g5 j (by omega)
   exact q.keep (fun hn=>hk _ (q.lt hn).1 (g6 j (by omega) hn))
 ·by_cases e:j=p
  ·subst e
   simp only [if_pos]
   omega
  ·simp only [if_neg e]
   exact g6 j (by omega) hn
 ·by_cases e:i=p
  ·subst e
   simp only [if_pos,if_neg (fun h:j=i=>hij h.symm)]
   have:=((g5 j (by omega)).lt hnj).1
   omega
  ·by_cases e2:j=p
   ·subst e2
    simp only [if_pos,if_neg e]
    have:=((g5 i (by omega)).lt hni).1
    omega
   ·simp only [if_neg e,if_neg e2]
    exact g7 i j (by omega) (by omega) hij hni hnj
 ·exact Below.setCell (p:=⟨gl,p * 5+4,none⟩) (g8.trans (hb4.mono (by omega))) (by show w.heap.size≤gl; omega) _
theorem PsI.out (h:PsI w w' bx gl 7 R):RSL w' w.heap.size (some ⟨gl,0,none⟩) 7 R:=by
 obtain⟨_,⟨A,G,C,cur,h1,h2,h3,h4,h5,h6,h7⟩,_⟩:=h
 exact .inr ⟨gl,rfl,A,G,C,by omega,⟨cur,h2,by omega,h4⟩,h5,h6,h7⟩
end
end
section
open Go.RowKit Go.Joins RastMath
theorem beq_of1 {a b:Int} (h:a=b):(a == b)=true:=by simpa using h
theorem beq_no1 {a b:Int} (h:¬ a=b):(a == b)=false:=by simpa using h
def IdxPost (f:Nat→Int) (n:Nat) (x:Int) (w:World) (e:Ending) (w':World):Prop:=∃ z:Int,e=.returned (.int .i64 z)∧(0≤z↔∃ i,i < n∧f i=x)∧w'=w
set_option maxHeartbeats 800000 in
theorem index_any (a:Option Addr) (n cap:Nat) (f:Nat→Int) (x:Int) (w:World) (hC:Came w a n f) (hn:n≤1048576):
  Calls Tryd.prog 113 #[.slice a n cap,.int .i64 x] w (IdxPost f n x w):=by
 have HC:=hid_of hC
 clear hC
 go_enter Tryd.func113,Tryd.ntmps113
 go_wp2_with fail
 go_loop [8] (fun i=>∃ j:Nat,j≤n∧i=.int .i64 j∧Hid (∀ i,i < j→¬ f i=x)) (fun i=>n - (intOf i).toNat)
 case atStart=>exact⟨0,Nat.zero_le _,rfl,fun i hi=>absurd hi (Nat.not_lt_zero i)⟩
 case round=>
  obtain⟨j,hj,rfl,hok⟩:=hrel
  by_cases hlt:j < n
  ·rcases HC.out with h0 | ⟨g,off,rfl,hg,hc⟩
   ·omega
   ·have c0:=hc j hlt
    clear hc
    by_cases hin:f j=x
    ·have HK:Hid (∃ i,i < n∧f i=x):=⟨j,hlt,hin⟩
     have d0:(x == f j)=true:=beq_of1 hin.symm
     clear hin
     go_wp2_with fail
     go_ret
     exact⟨(j:Int),rfl,⟨fun _=>HK.out,fun _=>by omega⟩,rfl⟩
    ·have HN:Hid (∀ i,i < j+1→¬ f i=x):=fun i hi=>by
      by_cases e:i=j
      ·rw[e]; exact hin
      ·exact hok.out i (by omega)
     have d0:(x == f j)=false:=beq_no1 fun h=>hin h.symm
     clear hin
     go_wp2_with fail
     go_round
     case rel=>exact⟨j+1,by omega,by go_num,HN⟩
     case measure=>simp [intOf]; omega
  ·obtain rfl:j=n:=by omega
   go_wp2_with fail
   go_ret
   exact⟨-1,rfl,⟨fun h=>absurd h (by omega),fun ⟨i,hi,h⟩=>absurd h (hok.out i hi)⟩,rfl⟩
def ContPost (f:Nat→Int) (n:Nat) (x:Int) (w:World) (e:Ending) (w':World):Prop:=e=.returned (.bool (decide (∃ i,i < n∧f i=x)))∧w'=w
theorem contains_any (a:Option Addr) (n cap:Nat) (f:Nat→Int) (x:Int) (w:World) (hC:Came w a n f) (hn:n≤1048576):
  Calls Tryd.prog 104 #[.slice a n cap,.int .i64 x] w (ContPost f n x w):=by
 have h:=index_any a n cap f x w hC hn
 clear hC
 go_enter Tryd.func104,Tryd.ntmps104
 go_wp2_with fail
 refine h.mono ?_
 rintro e w1 ⟨z,rfl,hz,rfl⟩
 have hd:decide (0≤z)=decide (∃ i,i < n∧f i=x):=decide_eq_decide.mpr hz
 have HD:=hid_of hd
 clear hz hd h
 go_wp2_with fail
 go_ret
 refine⟨?_,rfl⟩
 rw[HD.out]
 rfl
def fiveL (i:Nat):Int:=[1,2,4,8,16].getD i 0
theorem five_has (d:Int):(∃ i,i < 5∧fiveL i=d)↔Five d:=by
 unfold Five fiveL
 constructor
 ·rintro⟨i,hi,rfl⟩
  match i,hi with
  | 0,_=>simp
  | 1,_=>simp
  | 2,_=>simp
  | 3,_=>simp
  | 4,_=>simp
  | k+5,hk=>omega
 ·rintro (rfl | rfl | rfl | rfl | rfl)
  ·exact⟨0,by omega,rfl⟩
  ·exact⟨1,by omega,rfl⟩
  ·exact⟨2,by omega,rfl⟩
  ·exact⟨3,by omega,rfl⟩
  ·exact⟨4,by omega,rfl⟩
theorem isDepth_any (d:Int) (w:World):Calls Tryd.prog 90 #[.int .i64 d] w fun e w'=>e=.returned (.bool (decide (Five d)))∧Below w.heap.size w w':=by
 have h:Hid (∀ W:World,W=w.alloc (.cells #[.int .i64 1,.int .i64 2,.int .i64 4,.int .i64 8,.int .i64 16] 3)→Calls Tryd.prog 104 #[.slice (some ⟨w.heap.size,0,none⟩) 5 5,.int .i64 d] W fun e w'=>e=.returned (.bool (decide (Five d)))∧w'=W):=by
  rintro W rfl
  have hc:Came (w.alloc (.cells #[.int .i64 1,.int .i64 2,.int .i64 4,.int .i64 8,.int .i64 16] 3)) (some ⟨w.heap.size,0,none⟩) 5 fiveL:=by
   refine .inr ⟨w.heap.size,0,rfl,by simp,fun j hj=>?_⟩
   rw[Nat.zero_add,cell_of_block (heap_alloc_new w _) j]
   match j,hj with
   | 0,_=>rfl
   | 1,_=>rfl
   | 2,_=>rfl
   | 3,_=>rfl
   | 4,_=>rfl
   | k+5,hk=>omega
  refine (contains_any (some ⟨w.heap.size,0,none⟩) 5 5 fiveL d _ hc (by omega)).mono ?_
  rintro e w' ⟨rfl,rfl⟩
  refine⟨?_,rfl⟩
  rw[decide_eq_decide.mpr (five_has d)]
 have hB:=hid_of (bstart w (.cells #[.int .i64 1,.int .i64 2,.int .i64 4,.int .i64 8,.int .i64 16] 3))
 generalize decide (Five d)=b at h ⊢
 go_enter Tryd.func90,Tryd.ntmps90
 go_wp2_with fail
 refine (h.out _ rfl).mono ?_
 rintro e w1 ⟨rfl,rfl⟩
 go_wp2_with fail
 go_ret
 exact⟨rfl,hB.out⟩
theorem isSide_any (n:Int) (w:World):Calls Tryd.prog 38 #[.int .i64 n] w fun e w'=>e=.returned (.bool (decide (SideR n)))∧w'=w:=by
 by_cases h1:1≤n
 ·have d1:decide (1≤n)=true:=decide_eq_true h1
  have hh:decide (SideR n)=decide (n≤24):=decide_eq_decide.mpr ⟨fun h=>h.2,fun h=>⟨h1,h⟩⟩
  rw[hh]
  clear h1 hh
  generalize hb:decide (n≤24)=b
  go_enter Tryd.func38,Tryd.ntmps38
  go_wp2_with fail
  go_ret
  exact⟨rfl,rfl⟩
 ·have d1:decide (1≤n)=false:=decide_eq_false h1
  rw[decide_eq_false (fun h:SideR n=>h1 h.1)]
  clear h1
  go_enter Tryd.func38,Tryd.ntmps38
  go_wp2_with fail
  go_ret
  exact⟨rfl,rfl⟩
theorem implChannels (c:Int) (w:World):Calls Tryd.prog 80 #[.int .i64 c] w fun e w'=>e=.returned (.int .i64 (chan c))∧w'=w:=by
 unfold chan
 by_cases h0:c=0
 ·subst h0
  go_enter Tryd.func80,Tryd.ntmps80
  go_wp2_with fail
  go_ret
  exact⟨rfl,rfl⟩
 by_cases h3:c=3
 ·subst h3
  go_enter Tryd.func80,Tryd.ntmps80
  go_wp2_with fail
  go_ret
  exact⟨rfl,rfl⟩
 by_cases h2:c=2
 ·subst h2
  go_enter Tryd.func80,Tryd.ntmps80
  go_wp2_with fail
  go_ret
  exact⟨rfl,rfl⟩
 by_cases h4:c=4
 ·subst h4
  go_enter Tryd.func80,Tryd.ntmps80
  go_wp2_with fail
  go_ret
  exact⟨rfl,rfl⟩
 by_cases h6:c=6
 ·subst h6
  go_enter Tryd.func80,Tryd.ntmps80
  go_wp2_with fail
  go_ret
  exact⟨rfl,rfl⟩
 rw[if_neg (by omega),if_neg h2,if_neg h4,if_neg h6]
 have b0:=beq_no1 h0
 have b3:=beq_no1 h3
 have b2:=beq_no1 h2
 have b4:=beq_no1 h4
 have b6:=beq_no1 h6
 go_enter Tryd.func80,Tryd.ntmps80
 go_wp2_with fail
 go_ret
 exact⟨rfl,rfl⟩
theorem implDepth (c d:Int) (w:World):Calls Tryd.prog 48 #[.int .i64 c,.int .i64 d] w fun e w'=>e=.returned (.bool (decide (DepthR c d)))∧Below w.heap.size w w':=by
 by_cases h0:c=0
 ·subst h0
  have h:=isDepth_any d
  rw[show decide (Five d)=decide (DepthR 0 d) from decide_eq_decide.mpr ⟨fun h=>.inl ⟨rfl,h⟩,depth_five⟩] at h
  generalize decide (DepthR 0 d)=b at h ⊢
  go_enter Tryd.func48,Tryd.ntmps48
  go_wp2_with fail
  refine (h _).mono ?_
  rintro e w1 ⟨rfl,hB⟩
  have HB:=hid_of hB
  clear hB
  go_wp2_with fail
  go_ret
  exact⟨rfl,HB.out⟩
 by_cases h3:c=3
 ·subst h3
  by_cases h5:Five d
  ·have h:=isDepth_any d
   rw[decide_eq_true h5] at h
   have hh:decide (DepthR 3 d)=(d != 16):=by
    by_cases e:d=16
    ·subst e; decide
    ·rw[decide_eq_true (show DepthR 3 d from .inr (.inl ⟨rfl,h5,e⟩))]
     simp[e]
   rw[hh]
   clear h5 hh
   generalize hb:(d != 16)=b
   go_enter Tryd.func48,Tryd.ntmps48
   go_wp2_with fail
   refine (h _).mono ?_
   rintro e w1 ⟨rfl,hB⟩
   have HB:=hid_of hB
   clear hB
   go_wp2_with fail
   go_ret
   exact⟨rfl,HB.out⟩
  ·have h:=isDepth_any d
   rw[decide_eq_false h5] at h
   rw[decide_eq_false (fun h:DepthR 3 d=>h5 (depth_five h))]
   clear h5
   go_enter Tryd.func48,Tryd.ntmps48
   go_wp2_with fail
   refine (h _).mono ?_
   rintro e w1 ⟨rfl,hB⟩
   have HB:=hid_of hB
   clear hB
   go_wp2_with fail
   go_ret
   exact⟨rfl,HB.out⟩
 have hd:d=8∨d=16∨(¬ d=8∧¬ d=16):=by omega
 have hc:c=2∨c=4∨c=6∨(¬ c=2∧¬ c=4∧¬ c=6):=by omega
 rcases hc with rfl | rfl | rfl | ⟨h2,h4,h6⟩
 all_goals
  rcases hd with rfl | rfl | ⟨h8,h16⟩
 all_goals
  first
   | (rw [decide_eq_true (show DepthR _ _ by unfold DepthR Five; omega)])
   | (rw [decide_eq_false (show ¬ DepthR _ _ by unfold DepthR Five; omega)])
  try (have e0:=beq_no1 h0; have e3:=beq_no1 h3; have e2:=beq_no1 h2; have e4:=beq_no1 h4; have e6:=beq_no1 h6; clear h0 h3 h2 h4 h6)
  try (have g8:=beq_no1 h8; have g16:=beq_no1 h16; clear h8 h16)
  go_enter Tryd.func48,Tryd.ntmps48
  go_wp2_with fail
  go_ret
  exact⟨rfl,Below.refl _ _⟩
end
section
open Go.RowKit Go.Joins OutMath RastMath
def SamPost (f:Nat→Int) (n d:Nat) (w:World) (e:Ending) (w':World):Prop:=∃ b,e=.returned (.bool b)∧(b=true↔Fit12 f n d)∧w'=w
set_option maxHeartbeats 800000 in
theorem samples_any (a:Option Addr) (n cap d:Nat) (f:Nat→Int) (w:World) (hC:Came w a n f) (hn:n≤1048576) (hd:d≤16):
  Calls Tryd.prog 77 #[.slice a n cap,.int .i64 (d:Int)] w (SamPost f n d w):=by
 have HC:=hid_of hC
 obtain⟨M,hM⟩:∃ M:Int,M=2 ^ d:=⟨_,rfl⟩
 have hMb:1≤M∧M≤65536:=by
  have h1:=p2_pos d
  have h2:=p2_le hd
  rw[show p2 16=65536 by decide +kernel] at h2
  rw[hM]
  exact⟨h1,h2⟩
 have HM:Hid (M=p2 d):=hM
 have r2:=hM.symm
 have w6:IntKind.i64.wrap M=M:=by rw [IntKind.wrap_i64]; omega
 have m64:min d 64=d:=by omega
 clear hC hM
 go_enter Tryd.func77,Tryd.ntmps77
 go_wp2_with fail
 go_loop [9] (fun i=>∃ j:Nat,j≤n∧i=.int .i64 j∧Hid (Fit12 f j d)) (fun i=>n - (intOf i).toNat)
 case atStart=>exact⟨0,Nat.zero_le _,rfl,fun i hi=>absurd hi (Nat.not_lt_zero i)⟩
 case round=>
  obtain⟨j,hj,rfl,hok⟩:=hrel
  by_cases hlt:j < n
  ·rcases HC.out with h0 | ⟨g,off,rfl,hg,hc⟩
   ·omega
   ·have c0:=hc j hlt
    clear hc
    by_cases hin:0≤f j∧f j < M
    ·have HK:Hid (Fit12 f (j+1) d):=hok.out.next hin.1 (by rw [← HM.out]; exact hin.2)
     have d0:decide (f j < 0)=false:=decide_eq_false (by omega)
     have d1:(f j / M != 0)=false:=by
      rw[Int.ediv_eq_zero_of_lt hin.1 hin.2]
      rfl
     clear hin
     go_wp2_with fail
     go_round
     case rel=>exact⟨j+1,by omega,by go_num,HK⟩
     case measure=>simp [intOf]; omega
    ·have HN:Hid (¬ Fit12 f n d):=fun h=>hin (by have:=h j hlt; rw [← HM.out] at this; exact this)
     by_cases h0:f j < 0
     ·have d0:decide (f j < 0)=true:=decide_eq_true h0
      clear hin
      go_wp2_with fail
      go_ret
      exact⟨false,rfl,by simp [HN.out],rfl⟩
     ·have d0:decide (f j < 0)=false:=decide_eq_false h0
      have d1:(f j / M != 0)=true:=by
       have:1≤f j / M:=(Int.le_ediv_iff_mul_le (by omega)).mpr (by omega)
       simp only [bne_iff_ne,ne_eq]
       omega
      clear hin
      go_wp2_with fail
      go_ret
      exact⟨false,rfl,by simp [HN.out],rfl⟩
  ·obtain rfl:j=n:=by omega
   go_wp2_with fail
   go_ret
   exact⟨true,rfl,by simp [hok.out],rfl⟩
end
end Go.Proofs.YtcbbcadfolgioaaDoor
