/-
  Texts of the proof, put together.
-/
import Derived.Test.YtcbbcadfolgioaaDoorPa06
namespace Go.Proofs.YtcbbcadfolgioaaDoor
section
open Go.RowKit Go.Joins RastMath PassMath
theorem isPass_any (p:Int) (w:World):Calls Tryd.prog 41 #[.int .i64 p] w fun e w'=>e=.returned (.bool (decide (PassR p)))∧w'=w:=by
 by_cases h1:0≤p
 ·have d1:decide (0≤p)=true:=decide_eq_true h1
  have hh:decide (PassR p)=decide (p < 7):=decide_eq_decide.mpr ⟨fun h=>by have:=h.2; omega,fun h=>⟨h1,by omega⟩⟩
  rw[hh]
  clear h1 hh
  generalize hb:decide (p < 7)=b
  go_enter Tryd.func41,Tryd.ntmps41
  go_wp2_with fail
  go_ret
  exact⟨rfl,rfl⟩
 ·have d1:decide (0≤p)=false:=decide_eq_false h1
  rw[decide_eq_false (fun h:PassR p=>h1 h.1)]
  clear h1
  go_enter Tryd.func41,Tryd.ntmps41
  go_wp2_with fail
  go_ret
  exact⟨rfl,rfl⟩
theorem stepsIn_any (s f t:Nat) (w:World) (hs:s≤24) (hf:f≤4) (ht:1≤t∧t≤8):
  Calls Tryd.prog 42 #[.int .i64 (s:Int),.int .i64 (f:Int),.int .i64 (t:Int)] w fun e w'=>e=.returned (.int .i64 (cntP s f t:Int))∧w'=w:=by
 unfold cntP
 by_cases h:f < s
 ·rw[if_pos h]
  obtain⟨q,hq⟩:∃ q,q=(s - f - 1) / t:=⟨_,rfl⟩
  have hqb:q≤24:=by rw [hq]; exact Nat.le_trans (Nat.div_le_self _ _) (by omega)
  have d0:decide ((s:Int)≤(f:Int))=false:=decide_eq_false (by omega)
  have e1:((s:Int) - (f:Int) - 1)=((s - f - 1:Nat):Int):=by omega
  have e2:((s:Int) - (f:Int) - 1) / (t:Int)=(q:Int):=by rw [e1,hq]; simp
  have e3:((s:Int) - (f:Int) - 1).tdiv (t:Int)=(q:Int):=by rw [e1,hq,Int.tdiv_eq_ediv_of_nonneg (by omega)]; simp
  have n0:¬ ((t:Int)=0):=by omega
  rw[← hq]
  clear hq e1
  go_enter Tryd.func42,Tryd.ntmps42
  go_wp2_with fail
  go_ret
  exact⟨by go_num,rfl⟩
 ·rw[if_neg h]
  have d0:s≤f:=by omega
  clear h
  go_enter Tryd.func42,Tryd.ntmps42
  go_wp2_with fail
  go_ret
  exact⟨rfl,rfl⟩
theorem passStep_any (p:Int) (w:World) (hG:GridG w):Calls Tryd.prog 79 #[.int .i64 p] w fun e w'=>e=.returned (.tuple #[.int .i64 (stepV px p),.int .i64 (stepV py p),.int .i64 (stepV pdx p),.int .i64 (stepV pdy p)])∧Below w.heap.size w w':=by
 have hi:=isPass_any p
 unfold stepV
 by_cases h:PassR p
 ·rw[decide_eq_true h] at hi
  rw[if_pos h,if_pos h,if_pos h,if_pos h]
  obtain⟨n,hn⟩:=Int.eq_ofNat_of_zero_le h.1
  subst hn
  have hn7:n < 7:=by have:=h.2; omega
  obtain⟨c0,c1,c2,c3⟩:=hG.2 n hn7
  have lg:=hG.1
  rw[Int.toNat_natCast]
  generalize px n=a0 at *
  generalize py n=a1 at *
  generalize pdx n=a2 at *
  generalize pdy n=a3 at *
  have HB:=hid_of (bstart w (.cells #[.int .i64 (a0:Int),.int .i64 (a1:Int),.int .i64 (a2:Int),.int .i64 (a3:Int)] 65))
  have HX:Hid ((w.alloc (.cells #[.int .i64 (a0:Int),.int .i64 (a1:Int),.int .i64 (a2:Int),.int .i64 (a3:Int)] 65)).heap[w.heap.size]?=some (.cells #[.int .i64 (a0:Int),.int .i64 (a1:Int),.int .i64 (a2:Int),.int .i64 (a3:Int)] 65 (0,0))):=heap_alloc_new w _
  clear hG h
  go_enter Tryd.func79,Tryd.ntmps79
  go_wp2_with fail
  refine (hi _).mono ?_
  rintro e w1 ⟨rfl,rfl⟩
  go_wp2_with fail
  go_quiet (fail)
  go_wp2_with fail
  refine bodyPost_ret (v:=.tuple #[.int .i64 (a0:Int),.int .i64 (a1:Int),.int .i64 (a2:Int),.int .i64 (a3:Int)]) ?_ rfl ⟨rfl,bdraws HB.out _⟩
  simp[results,Tryd.results79,go_sem]
 ·rw[decide_eq_false h] at hi
  rw[if_neg h,if_neg h,if_neg h,if_neg h]
  clear h
  go_enter Tryd.func79,Tryd.ntmps79
  go_wp2_with fail
  refine (hi _).mono ?_
  rintro e w1 ⟨rfl,rfl⟩
  go_wp2_with fail
  refine bodyPost_ret (v:=.tuple #[.int .i64 0,.int .i64 0,.int .i64 0,.int .i64 0]) ?_ rfl ⟨rfl,Below.refl _ _⟩
  simp[results,Tryd.results79,go_sem]
set_option maxHeartbeats 1600000 in
theorem passSize_any (W H p:Int) (w:World) (hG:GridG w):Calls Tryd.prog 13 #[.int .i64 W,.int .i64 H,.int .i64 p] w fun e w'=>e=.returned (.tuple #[.int .i64 (wideV W H p),.int .i64 (highV W H p)])∧Below w.heap.size w w':=by
 have hi:=isPass_any p
 have h1:=isSide_any W
 have h2:=isSide_any H
 unfold wideV highV
 by_cases hp:PassR p
 ·rw[decide_eq_true hp] at hi
  by_cases hw:SideR W
  ·rw[decide_eq_true hw] at h1
   by_cases hh:SideR H
   ·rw[decide_eq_true hh] at h2
    rw[if_pos ⟨hw,hh,hp⟩,if_pos ⟨hw,hh,hp⟩]
    obtain⟨n,hn⟩:=Int.eq_ofNat_of_zero_le hp.1
    subst hn
    obtain⟨A,hA⟩:=Int.eq_ofNat_of_zero_le (show 0≤W by have:=hw.1; omega)
    subst hA
    obtain⟨B,hB⟩:=Int.eq_ofNat_of_zero_le (show 0≤H by have:=hh.1; omega)
    subst hB
    have hn7:n < 7:=by have:=hp.2; omega
    have hA24:A≤24:=by have:=hw.2; omega
    have hB24:B≤24:=by have:=hh.2; omega
    obtain⟨c0,c1,c2,c3⟩:=hG.2 n hn7
    have lg:=hG.1
    rw[Int.toNat_natCast,Int.toNat_natCast,Int.toNat_natCast]
    unfold pw ph
    have hs1:=fun V=>stepsIn_any A (px n) (pdx n) V hA24 (px_le hn7).1 (pdx_pos hn7)
    have hs2:=fun V=>stepsIn_any B (py n) (pdy n) V hB24 (px_le hn7).2 (pdy_pos hn7)
    generalize cntP A (px n) (pdx n)=K1 at *
    generalize cntP B (py n) (pdy n)=K2 at *
    generalize px n=a0 at *
    generalize py n=a1 at *
    generalize pdx n=a2 at *
    generalize pdy n=a3 at *
    have HB:=hid_of (bstart w (.cells #[.int .i64 (a0:Int),.int .i64 (a1:Int),.int .i64 (a2:Int),.int .i64 (a3:Int)] 65))
    have HR:Hid (((K1=0∨K2=0)→(if K1=0∨K2=0 then 0 else K1)=0∧(if K1=0∨K2=0 then 0 else K2)=0)∧(¬ (K1=0∨K2=0)→(if K1=0∨K2=0 then 0 else K1)=K1∧(if K1=0∨K2=0 then 0 else K2)=K2)):=⟨fun h=>⟨if_pos h,if_pos h⟩,fun h=>⟨if_neg h,if_neg h⟩⟩
    generalize (if K1=0∨K2=0 then 0 else K1)=r1 at HR ⊢
    generalize (if K1=0∨K2=0 then 0 else K2)=r2 at HR ⊢
    clear hG hp hw hh
    go_enter Tryd.func13,Tryd.ntmps13
    go_wp2_with fail
    refine (hi _).mono ?_
    rintro e w1 ⟨rfl,rfl⟩
    go_wp2_with fail
    refine (h1 _).mono ?_
    rintro e w2 ⟨rfl,rfl⟩
    go_wp2_with fail
    refine (h2 _).mono ?_
    rintro e w1 ⟨rfl,rfl⟩
    go_wp2_with fail
    go_quiet ((go_at_call 42; first | (guard_target=Calls _ _ #[Value.int IntKind.i64 (A:Int),_,_] _ _; exact Calls.quiet_of_same (hs1 _)) | (guard_target=Calls _ _ #[Value.int IntKind.i64 (B:Int),_,_] _ _; exact Calls.quiet_of_same (hs2 _))))
    by_cases e1:K1=0
    ·obtain⟨u1,u2⟩:=HR.out.1 (.inl e1)
     subst e1 u1 u2
     go_wp2_with fail
     refine bodyPost_ret (v:=.tuple #[.int .i64 0,.int .i64 0]) ?_ rfl ⟨rfl,bdraws HB.out _⟩
     simp[results,Tryd.results13,go_sem]
    ·have b1:((K1:Int) == 0)=false:=by simp; omega
     by_cases e2:K2=0
     ·obtain⟨u1,u2⟩:=HR.out.1 (.inr e2)
      subst e2 u1 u2
      go_wp2_with fail
      refine bodyPost_ret (v:=.tuple #[.int .i64 0,.int .i64 0]) ?_ rfl ⟨rfl,bdraws HB.out _⟩
      simp[results,Tryd.results13,go_sem]
     ·have b2:((K2:Int) == 0)=false:=by simp; omega
      obtain⟨u1,u2⟩:=HR.out.2 (by omega)
      subst u1 u2
      go_wp2_with fail
      refine bodyPost_ret (v:=.tuple #[.int .i64 (r1:Int),.int .i64 (r2:Int)]) ?_ rfl ⟨rfl,bdraws HB.out _⟩
      simp[results,Tryd.results13,go_sem]
   ·rw[decide_eq_false hh] at h2
    rw[if_neg (fun h=>hh h.2.1),if_neg (fun h=>hh h.2.1)]
    clear hp hw hh
    go_enter Tryd.func13,Tryd.ntmps13
    go_wp2_with fail
    refine (hi _).mono ?_
    rintro e w1 ⟨rfl,rfl⟩
    go_wp2_with fail
    refine (h1 _).mono ?_
    rintro e w2 ⟨rfl,rfl⟩
    go_wp2_with fail
    refine (h2 _).mono ?_
    rintro e w1 ⟨rfl,rfl⟩
    go_wp2_with fail
    refine bodyPost_ret (v:=.tuple #[.int .i64 0,.int .i64 0]) ?_ rfl ⟨rfl,Below.refl _ _⟩
    simp[results,Tryd.results13,go_sem]
  ·rw[decide_eq_false hw] at h1
   rw[if_neg (fun h=>hw h.1),if_neg (fun h=>hw h.1)]
   clear hp hw
   go_enter Tryd.func13,Tryd.ntmps13
   go_wp2_with fail
   refine (hi _).mono ?_
   rintro e w1 ⟨rfl,rfl⟩
   go_wp2_with fail
   refine (h1 _).mono ?_
   rintro e w2 ⟨rfl,rfl⟩
   go_wp2_with fail
   refine bodyPost_ret (v:=.tuple #[.int .i64 0,.int .i64 0]) ?_ rfl ⟨rfl,Below.refl _ _⟩
   simp[results,Tryd.results13,go_sem]
 ·rw[decide_eq_false hp] at hi
  rw[if_neg (fun h=>hp h.2.2),if_neg (fun h=>hp h.2.2)]
  clear hp
  go_enter Tryd.func13,Tryd.ntmps13
  go_wp2_with fail
  refine (hi _).mono ?_
  rintro e w1 ⟨rfl,rfl⟩
  go_wp2_with fail
  refine bodyPost_ret (v:=.tuple #[.int .i64 0,.int .i64 0]) ?_ rfl ⟨rfl,Below.refl _ _⟩
  simp[results,Tryd.results13,go_sem]
end
section
open Go.RowKit Go.Joins RastMath PassMath
theorem size_answer:PassSizeAnswer:=fun W H p w _ _ _ hG=>passSize_any W H p w hG
end
section
open Go.RowKit Go.Joins
def PsI (w w':World) (bx:Array Value) (gl p:Nat) (R:Nat→Ras):Prop:=
 w'.heap[w.heap.size]?=some (.cells bx 26 (0,0))∧
 (∃ (A:Nat→Option Addr) (G C:Nat→Nat) (cur:Array Value),w.heap.size+1≤gl∧w'.heap[gl]?=some (.cells cur 26 (0,0))∧cur.size=35∧(∀ j,j < p→HeadAt cur (j * 5) (R j) (A j) (C j))∧
  (∀ j,j < p→RowOwn w' w.heap.size (A j) (G j) (R j).n (C j) (R j).f)∧(∀ j,j < p→0 < (R j).n→G j≠gl)∧∀ i j,i < p→j < p→i≠j→0 < (R i).n→0 < (R j).n→G i≠G j)∧
 Below w.heap.size w w'
def PsQ (w w':World) (bx:Array Value) (gl p:Nat) (R:Nat→Ras) (a0 a1 a2 a3:Int):Prop:=
 PsI w w' bx gl p R∧w'.cell? ⟨gl,p * 5,none⟩=some (.int .i64 a0)∧w'.cell? ⟨gl,p * 5+1,none⟩=some (.int .i64 a1)∧w'.cell? ⟨gl,p * 5+2,none⟩=some (.int .i64 a2)∧w'.cell? ⟨gl,p * 5+3,none⟩=some (.int .i64 a3)
section
variable {w w' w2:World} {bx:Array Value} {gl p:Nat} {R:Nat→Ras} {a0 a1 a2 a3:Int}
theorem PsI.lt (h:PsI w w' bx gl p R):gl < w'.heap.size∧w.heap.size < gl:=by
 obtain⟨_,⟨A,G,C,cur,h1,h2,_⟩,_⟩:=h
 exact⟨block_lt h2,h1⟩
theorem PsI.called (h:PsI w w' bx gl p R) (hb:Below w'.heap.size w' w2):PsI w w2 bx gl p R:=by
 obtain⟨h0,⟨A,G,C,cur,h1,h2,h3,h4,h5,h6,h7⟩,h8⟩:=h
 refine⟨(hb.block _ (block_lt h0)).trans h0,⟨A,G,C,cur,h1,(hb.block _ (block_lt h2)).trans h2,h3,h4,fun j hj=>(h5 j hj).keep (fun hn=>hb.block _ ((h5 j hj).lt hn).1),h6,h7⟩,bnext h8 hb⟩
theorem PsQ.called (h:PsQ w w' bx gl p R a0 a1 a2 a3) (hb:Below w'.heap.size w' w2):PsQ w w2 bx gl p R a0 a1 a2 a3:=by
 have hl:=h.1.lt.1
 obtain⟨h0,h1,h2,h3,h4⟩:=h
 exact⟨h0.called hb,(hb.cell (p:=⟨gl,p * 5,none⟩) hl).trans h1,(hb.cell (p:=⟨gl,p * 5+1,none⟩) hl).trans h2,(hb.cell (p:=⟨gl,p * 5+2,none⟩) hl).trans h3,(hb.cell (p:=⟨gl,p * 5+3,none⟩) hl).trans h4⟩
theorem PsI.cell (h:PsI w w' bx gl p R) (k:Nat) (hk:k < 35):(∃ z,w'.cell? ⟨gl,k,none⟩=some z)∧w'.frozen? ⟨gl,k,none⟩=false:=by
 obtain⟨_,⟨A,G,C,cur,h1,h2,h3,_⟩,_⟩:=h
 refine⟨?_,unfrozen_of_block h2 k⟩
 rw[cell_of_block h2 k,Array.getElem?_eq_getElem (by omega)]
 exact⟨_,rfl⟩
theorem PsI.set (h:PsI w w' bx gl p R) (k:Nat) (hk:p * 5≤k) (v:Value):PsI w (w'.setCell ⟨gl,k,none⟩ v) bx gl p R:=by
 obtain⟨h0,⟨A,G,C,cur,h1,h2,h3,h4,h5,h6,h7⟩,h8⟩:=h
 refine⟨(heap_setCell_other w' ⟨gl,k,none⟩ _ _ (by show ¬ w.heap.size=gl; omega)).trans h0,⟨A,G,C,cur.setIfInBounds k v,h1,block_setCell (i:=k) h2 v,by simpa using h3,fun j hj=>?_,fun j hj=>(h5 j hj).keep (fun hn=>heap_setCell_other w' ⟨gl,k,none⟩ _ _ (h6 j hj hn)),h6,h7⟩,Below.setCell (p:=⟨gl,k,none⟩) h8 (by show w.heap.size≤gl; omega) _⟩
 have e:∀ i,i < p * 5→(cur.setIfInBounds k v)[i]?=cur[i]?:=fun i hi=>Array.getElem?_setIfInBounds_ne (by omega)
 have q:=h4 j hj
 unfold HeadAt at q ⊢
 rw[e _ (by omega),e _ (by omega),e _ (by omega),e _ (by omega),e _ (by omega)]
 exact q
theorem PsI.shape (h:PsI w w' bx gl p R) (hp:p < 7) (v:Value):PsQ w (((((w'.setCell ⟨gl,p * 5,none⟩ (.int .i64 a0)).setCell ⟨gl,p * 5+1,none⟩ (.int .i64 a1)).setCell ⟨gl,p * 5+2,none⟩ (.int .i64 a2)).setCell ⟨gl,p * 5+3,none⟩ (.int .i64 a3)).setCell ⟨gl,p * 5+4,none⟩ v) bx gl p R a0 a1 a2 a3:=by
 have h0:=h.set (p * 5) (Nat.le_refl _) (.int .i64 a0)
 have h1:=h0.set (p * 5+1) (by omega) (.int .i64 a1)
 have h2:=h1.set (p * 5+2) (by omega) (.int .i64 a2)
 have h3:=h2.set (p * 5+3) (by omega) (.int .i64 a3)
 have h4:=h3.set (p * 5+4) (by omega) v
 refine⟨h4,?_⟩
 obtain⟨_,⟨A,G,C,cur,_,q2,q3,_⟩,_⟩:=h
 have b0:=block_setCell (i:=p * 5) q2 (.int .i64 a0)
 have b1:=block_setCell (i:=p * 5+1) b0 (.int .i64 a1)
 have b2:=block_setCell (i:=p * 5+2) b1 (.int .i64 a2)
 have b3:=block_setCell (i:=p * 5+3) b2 (.int .i64 a3)
 have b4:=block_setCell (i:=p * 5+4) b3 v
 refine⟨(cell_of_block b4 _).trans ?_,(cell_of_block b4 _).trans ?_,(cell_of_block b4 _).trans ?_,(cell_of_block b4 _).trans ?_⟩
 all_goals
  simp[Array.getElem?_setIfInBounds,q3]
  omega
theorem PsQ.next (h:PsQ w w' bx gl p R a0 a1 a2 a3) {S K:Nat} {F:Nat→Int} {B:Nat} (hp:p < 7) (hR:R p=⟨a0,a1,a2,a3,K,F⟩) (hO:IOwn w' B S K K F) (hB:w.heap.size≤B) (hgl:gl < B) (hK:K≤maxLen) (hold:∃ w4:World,w4.heap.size=B∧PsQ w w4 bx gl p R a0 a1 a2 a3∧Below B w4 w'):PsI w (w'.setCell ⟨gl,p * 5+4,none⟩ (.slice (some ⟨S,0,none⟩) K K)) bx gl (p+1) R:=by
 obtain⟨w4,rfl,hq,hb4⟩:=hold
 have hS:=hO.base_le
 obtain⟨⟨g0,⟨A,G,C,cur,g1,g2,g3,g4,g5,g6,g7⟩,g8⟩,c0,c1,c2,c3⟩:=hq
 have hk:∀ b,b < w4.heap.size→b≠gl→(w'.setCell ⟨gl,p * 5+4,none⟩ (.slice (some ⟨S,0,none⟩) K K)).heap[b]?=w4.heap[b]?:=fun b hb hbn=>
  (heap_setCell_other w' ⟨gl,p * 5+4,none⟩ _ _ hbn).trans (hb4.block b hb)
 have g2':w'.heap[gl]?=some (.cells cur 26 (0,0)):=(hb4.block _ hgl).trans g2
 rw[cell_of_block g2] at c0 c1 c2 c3
 refine⟨(hk _ (block_lt g0) (by omega)).trans g0,⟨fun i=>if i=p then some ⟨S,0,none⟩ else A i,fun i=>if i=p then S else G i,fun i=>if i=p then K else C i,_,g1,block_setCell (i:=p * 5+4) g2' _,by simpa using g3,fun j hj=>?_,fun j hj=>?_,fun j hj hn=>?_,fun i j hi hj hij hni hnj=>?_⟩,?_⟩
 ·by_cases e:j=p
  ·subst e
   simp only [if_pos]
   rw[hR]
   refine⟨?_,?_,?_,?_,?_⟩
   ·rw[Array.getElem?_setIfInBounds_ne (by omega)]; exact c0
   ·rw[Array.getElem?_setIfInBounds_ne (by omega)]; exact c1
   ·rw[Array.getElem?_setIfInBounds_ne (by omega)]; exact c2
   ·rw[Array.getElem?_setIfInBounds_ne (by omega)]; exact c3
   ·rw[Array.getElem?_setIfInBounds_self_of_lt (by omega)]
  ·simp only [if_neg e]
   have q:=g4 j (by omega)
   unfold HeadAt at q ⊢
   rw[Array.getElem?_setIfInBounds_ne (by omega),Array.getElem?_setIfInBounds_ne (by omega),Array.getElem?_setIfInBounds_ne (by omega),Array.getElem?_setIfInBounds_ne (by omega),Array.getElem?_setIfInBounds_ne (by omega)]
   exact q
 ·by_cases e:j=p
  ·subst e
   simp only [if_pos]
   rw[hR]
   refine⟨Nat.le_refl _,hK,.inr ⟨rfl,?_⟩⟩
   refine (hO.mono hB).keep (heap_setCell_other w' ⟨gl,j * 5+4,none⟩ _ _ (by show ¬ S=gl; omega))
  ·simp only [if_neg e]
   have q:=g5 j (by omega)
   exact q.keep (fun hn=>hk _ (q.lt hn).1 (g6 j (by omega) hn))
 ·by_cases e:j=p
  ·subst e
   simp only [if_pos]
   omega
  ·simp only [if_neg e]
   exact g6 j (by omega) hn
 ·by_cases e:i=p
  ·subst e
   simp only [if_pos,if_neg (fun h:j=i=>hij h.symm)]
   have:=((g5 j (by omega)).lt hnj).1
   omega
  ·by_cases e2:j=p
   ·subst e2
    simp only [if_pos,if_neg e]
    have:=((g5 i (by omega)).lt hni).1
    omega
   ·simp only [if_neg e,if_neg e2]
    exact g7 i j (by omega) (by omega) hij hni hnj
 ·exact Below.setCell (p:=⟨gl,p * 5+4,none⟩) (g8.trans (hb4.mono (by omega))) (by show w.heap.size≤gl; omega) _
theorem PsI.out (h:PsI w w' bx gl 7 R):RSL w' w.heap.size (some ⟨gl,0,none⟩) 7 R:=by
 obtain⟨_,⟨A,G,C,cur,h1,h2,h3,h4,h5,h6,h7⟩,_⟩:=h
 exact .inr ⟨gl,rfl,A,G,C,by omega,⟨cur,h2,by omega,h4⟩,h5,h6,h7⟩
end
end
section
namespace FiltMath
def siz (x:Int):Int:=if x < 0 then -x else x
def paeth (a b c:Int):Int:=
 if siz (a+b - c - a)≤siz (a+b - c - b)∧siz (a+b - c - a)≤siz (a+b - c - c) then a else if siz (a+b - c - b)≤siz (a+b - c - c) then b else c
def told (k a b c:Int):Int:=if k=1 then a else if k=2 then b else if k=3 then (a+b) / 2 else if k=4 then paeth a b c else 0
def aheadB (r:Nat→Int) (unit at_:Nat):Int:=if unit≤at_ then r (at_ - unit) else 0
def says (k:Int) (r u:Nat→Int) (unit i:Nat):Int:=told k (aheadB r unit i) (u i) (aheadB u unit i)
end FiltMath
end
section
open Go.RowKit Go.Joins OutMath RastMath
def SamPost (f:Nat→Int) (n d:Nat) (w:World) (e:Ending) (w':World):Prop:=∃ b,e=.returned (.bool b)∧(b=true↔Fit12 f n d)∧w'=w
set_option maxHeartbeats 800000 in
theorem samples_any (a:Option Addr) (n cap d:Nat) (f:Nat→Int) (w:World) (hC:Came w a n f) (hn:n≤1048576) (hd:d≤16):
  Calls Tryd.prog 77 #[.slice a n cap,.int .i64 (d:Int)] w (SamPost f n d w):=by
 have HC:=hid_of hC
 obtain⟨M,hM⟩:∃ M:Int,M=2 ^ d:=⟨_,rfl⟩
 have hMb:1≤M∧M≤65536:=by
  have h1:=p2_pos d
  have h2:=p2_le hd
  rw[show p2 16=65536 by decide +kernel] at h2
  rw[hM]
  exact⟨h1,h2⟩
 have HM:Hid (M=p2 d):=hM
 have r2:=hM.symm
 have w6:IntKind.i64.wrap M=M:=by rw [IntKind.wrap_i64]; omega
 have m64:min d 64=d:=by omega
 clear hC hM
 go_enter Tryd.func77,Tryd.ntmps77
 go_wp2_with fail
 go_loop [9] (fun i=>∃ j:Nat,j≤n∧i=.int .i64 j∧Hid (Fit12 f j d)) (fun i=>n - (intOf i).toNat)
 case atStart=>exact⟨0,Nat.zero_le _,rfl,fun i hi=>absurd hi (Nat.not_lt_zero i)⟩
 case round=>
  obtain⟨j,hj,rfl,hok⟩:=hrel
  by_cases hlt:j < n
  ·rcases HC.out with h0 | ⟨g,off,rfl,hg,hc⟩
   ·omega
   ·have c0:=hc j hlt
    clear hc
    by_cases hin:0≤f j∧f j < M
    ·have HK:Hid (Fit12 f (j+1) d):=hok.out.next hin.1 (by rw [← HM.out]; exact hin.2)
     have d0:decide (f j < 0)=false:=decide_eq_false (by omega)
     have d1:(f j / M != 0)=false:=by
      rw[Int.ediv_eq_zero_of_lt hin.1 hin.2]
      rfl
     clear hin
     go_wp2_with fail
     go_round
     case rel=>exact⟨j+1,by omega,by go_num,HK⟩
     case measure=>simp [intOf]; omega
    ·have HN:Hid (¬ Fit12 f n d):=fun h=>hin (by have:=h j hlt; rw [← HM.out] at this; exact this)
     by_cases h0:f j < 0
     ·have d0:decide (f j < 0)=true:=decide_eq_true h0
      clear hin
      go_wp2_with fail
      go_ret
      exact⟨false,rfl,by simp [HN.out],rfl⟩
     ·have d0:decide (f j < 0)=false:=decide_eq_false h0
      have d1:(f j / M != 0)=true:=by
       have:1≤f j / M:=(Int.le_ediv_iff_mul_le (by omega)).mpr (by omega)
       simp only [bne_iff_ne,ne_eq]
       omega
      clear hin
      go_wp2_with fail
      go_ret
      exact⟨false,rfl,by simp [HN.out],rfl⟩
  ·obtain rfl:j=n:=by omega
   go_wp2_with fail
   go_ret
   exact⟨true,rfl,by simp [hok.out],rfl⟩
end
end Go.Proofs.YtcbbcadfolgioaaDoor
