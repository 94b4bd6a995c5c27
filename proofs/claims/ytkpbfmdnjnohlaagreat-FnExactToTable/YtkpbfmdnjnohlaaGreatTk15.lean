/-
  Texts of the proof, put together.
-/
import Derived.Test.YtkpbfmdnjnohlaaGreatTk14
namespace Go.Proofs.YtkpbfmdnjnohlaaGreat
section
open Go.RowKit Go.Joins ChunkMath
def LikeI (n m:Nat) (f g:Nat→Int):Prop:=n=m∧∀ i,i < n→f i=g i
def LikePost (p:Prop) (w:World) (e:Ending) (w':World):Prop:=∃ b,e=.returned (.bool b)∧(b=true↔p)∧Below w.heap.size w w'
theorem like_no {p:Prop} {w w':World} (h:¬ p) (hb:Below w.heap.size w w'):LikePost p w (.returned (.bool false)) w':=⟨false,rfl,⟨fun e=>(by cases e),fun k=>absurd k h⟩,hb⟩
theorem like_yes {p:Prop} {w w':World} (h:p) (hb:Below w.heap.size w w'):LikePost p w (.returned (.bool true)) w':=⟨true,rfl,⟨fun _=>h,fun _=>rfl⟩,hb⟩
end
section
open Go.RowKit Go.Joins ChunkMath
set_option maxRecDepth 100000 in
set_option maxHeartbeats 1600000 in
theorem likeI_any (a b:Option Addr) (n m c1 c2:Nat) (f g:Nat→Int) (w:World) (ha:Came w a n f) (hb:Came w b m g) (hn:n≤1048576) (hm:m≤1048576):
  Calls Tryz.prog 112 #[.slice a n c1,.slice b m c2] w (LikePost (LikeI n m f g) w):=by
 by_cases h:n=m
 case neg=>
  have HN:Hid (LikePost (LikeI n m f g) w (.returned (.bool false)) w):=like_no (fun k=>h k.1) (Below.refl _ _)
  have d:((n:Int) != (m:Int))=true:=by simp only [bne_iff_ne,ne_eq]; omega
  clear ha hb h
  go_enter Tryz.func112,Tryz.ntmps112
  go_wp2_with fail
  go_ret
  exact HN.out
 subst h
 have HA:=hid_of ha
 have HB:=hid_of hb
 have d:((n:Int) != (n:Int))=false:=by simp
 have H0:Hid (Below w.heap.size w w):=Below.refl _ _
 clear ha hb
 go_enter Tryz.func112,Tryz.ntmps112
 go_wp2_with fail
 go_loopw [13] (fun i w'=>∃ j:Nat,j≤n∧i=.int .i64 j∧Hid (∀ i,i < j→f i=g i)∧Hid (Below w.heap.size w w')) (fun i _=>n - (intOf i).toNat)
 case atStart=>exact⟨0,Nat.zero_le _,rfl,fun i hi=>absurd hi (Nat.not_lt_zero i),H0⟩
 case round=>
  clear H0
  obtain⟨j,hj,rfl,hE,hBj⟩:=hrel
  by_cases hlt:j < n
  ·rcases HA.out with h0 | ⟨g1,o1,rfl,hg,hc⟩
   ·omega
   ·rcases HB.out with h0 | ⟨g2,o2,rfl,hg',hc'⟩
    ·omega
    ·have c0:=(hBj.out.cell (p:=⟨g1,o1+j,none⟩) hg).trans (hc j hlt)
     have c1:=(hBj.out.cell (p:=⟨g2,o2+j,none⟩) hg').trans (hc' j hlt)
     clear hc hc'
     by_cases h1:f j=g j
     ·have d1:(f j != g j)=false:=by simpa using h1
      have HN:Hid (∀ i,i < j+1→f i=g i):=fun i hi=>by
       by_cases e:i=j
       ·rw[e]; exact h1
       ·exact hE.out i (by omega)
      generalize f j=x at *
      generalize g j=y at *
      clear h1
      go_wp2_with fail
      go_quiet (fail)
      have HB2:=hid_of (bdraws hBj.out nq)
      go_wp2_with fail
      go_roundw
      case rel=>exact⟨j+1,by omega,by go_num,HN,HB2⟩
      case measure=>simp [intOf]; omega
     ·have d1:(f j != g j)=true:=by simpa using h1
      have HN:Hid (∀ W,Below w.heap.size w W→LikePost (LikeI n n f g) w (.returned (.bool false)) W):=fun W hW=>like_no (fun k=>h1 (k.2 j hlt)) hW
      generalize f j=x at c0 d1
      generalize g j=y at c1 d1
      clear h1
      go_wp2_with fail
      go_quiet (fail)
      have HB2:=hid_of (bdraws hBj.out nq)
      go_wp2_with fail
      go_ret
      exact HN.out _ HB2.out
  ·obtain rfl:j=n:=by omega
   have HN:Hid (LikePost (LikeI j j f g) w (.returned (.bool true)) wr):=like_yes ⟨rfl,hE.out⟩ hBj.out
   go_wp2_with fail
   go_ret
   exact HN.out
end
end Go.Proofs.YtkpbfmdnjnohlaaGreat
