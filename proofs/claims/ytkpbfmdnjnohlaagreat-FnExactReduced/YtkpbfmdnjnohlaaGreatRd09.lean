/-
  Texts of the proof, put together.
-/
import Derived.Test.YtkpbfmdnjnohlaaGreatRd01
namespace Go.Proofs.YtkpbfmdnjnohlaaGreat
open Go.RowKit Go.Joins RastMath
theorem beq_of1 {a b:Int} (h:a=b):(a == b)=true:=by simpa using h
theorem beq_no1 {a b:Int} (h:¬ a=b):(a == b)=false:=by simpa using h
def IdxPost (f:Nat→Int) (n:Nat) (x:Int) (w:World) (e:Ending) (w':World):Prop:=∃ z:Int,e=.returned (.int .i64 z)∧(0≤z↔∃ i,i < n∧f i=x)∧w'=w
set_option maxHeartbeats 800000 in
theorem index_any (a:Option Addr) (n cap:Nat) (f:Nat→Int) (x:Int) (w:World) (hC:Came w a n f) (hn:n≤1048576):
  Calls Tryz.prog 83 #[.slice a n cap,.int .i64 x] w (IdxPost f n x w):=by
 have HC:=hid_of hC
 clear hC
 go_enter Tryz.func83,Tryz.ntmps83
 go_wp2_with fail
 go_loop [8] (fun i=>∃ j:Nat,j≤n∧i=.int .i64 j∧Hid (∀ i,i < j→¬ f i=x)) (fun i=>n - (intOf i).toNat)
 case atStart=>exact⟨0,Nat.zero_le _,rfl,fun i hi=>absurd hi (Nat.not_lt_zero i)⟩
 case round=>
  obtain⟨j,hj,rfl,hok⟩:=hrel
  by_cases hlt:j < n
  ·rcases HC.out with h0 | ⟨g,off,rfl,hg,hc⟩
   ·omega
   ·have c0:=hc j hlt
    clear hc
    by_cases hin:f j=x
    ·have HK:Hid (∃ i,i < n∧f i=x):=⟨j,hlt,hin⟩
     have d0:(x == f j)=true:=beq_of1 hin.symm
     clear hin
     go_wp2_with fail
     go_ret
     exact⟨(j:Int),rfl,⟨fun _=>HK.out,fun _=>by omega⟩,rfl⟩
    ·have HN:Hid (∀ i,i < j+1→¬ f i=x):=fun i hi=>by
      by_cases e:i=j
      ·rw[e]; exact hin
      ·exact hok.out i (by omega)
     have d0:(x == f j)=false:=beq_no1 fun h=>hin h.symm
     clear hin
     go_wp2_with fail
     go_round
     case rel=>exact⟨j+1,by omega,by go_num,HN⟩
     case measure=>simp [intOf]; omega
  ·obtain rfl:j=n:=by omega
   go_wp2_with fail
   go_ret
   exact⟨-1,rfl,⟨fun h=>absurd h (by omega),fun ⟨i,hi,h⟩=>absurd h (hok.out i hi)⟩,rfl⟩
def ContPost (f:Nat→Int) (n:Nat) (x:Int) (w:World) (e:Ending) (w':World):Prop:=e=.returned (.bool (decide (∃ i,i < n∧f i=x)))∧w'=w
theorem contains_any (a:Option Addr) (n cap:Nat) (f:Nat→Int) (x:Int) (w:World) (hC:Came w a n f) (hn:n≤1048576):
  Calls Tryz.prog 61 #[.slice a n cap,.int .i64 x] w (ContPost f n x w):=by
 have h:=index_any a n cap f x w hC hn
 clear hC
 go_enter Tryz.func61,Tryz.ntmps61
 go_wp2_with fail
 refine h.mono ?_
 rintro e w1 ⟨z,rfl,hz,rfl⟩
 have hd:decide (0≤z)=decide (∃ i,i < n∧f i=x):=decide_eq_decide.mpr hz
 have HD:=hid_of hd
 clear hz hd h
 go_wp2_with fail
 go_ret
 refine⟨?_,rfl⟩
 rw[HD.out]
 rfl
def fiveL (i:Nat):Int:=[1,2,4,8,16].getD i 0
theorem five_has (d:Int):(∃ i,i < 5∧fiveL i=d)↔Five d:=by
 unfold Five fiveL
 constructor
 ·rintro⟨i,hi,rfl⟩
  match i,hi with
  | 0,_=>simp
  | 1,_=>simp
  | 2,_=>simp
  | 3,_=>simp
  | 4,_=>simp
  | k+5,hk=>omega
 ·rintro (rfl | rfl | rfl | rfl | rfl)
  ·exact⟨0,by omega,rfl⟩
  ·exact⟨1,by omega,rfl⟩
  ·exact⟨2,by omega,rfl⟩
  ·exact⟨3,by omega,rfl⟩
  ·exact⟨4,by omega,rfl⟩
theorem isDepth_any (d:Int) (w:World):Calls Tryz.prog 134 #[.int .i64 d] w fun e w'=>e=.returned (.bool (decide (Five d)))∧Below w.heap.size w w':=by
 have h:Hid (∀ W:World,W=w.alloc (.cells #[.int .i64 1,.int .i64 2,.int .i64 4,.int .i64 8,.int .i64 16] 3)→Calls Tryz.prog 61 #[.slice (some ⟨w.heap.size,0,none⟩) 5 5,.int .i64 d] W fun e w'=>e=.returned (.bool (decide (Five d)))∧w'=W):=by
  rintro W rfl
  have hc:Came (w.alloc (.cells #[.int .i64 1,.int .i64 2,.int .i64 4,.int .i64 8,.int .i64 16] 3)) (some ⟨w.heap.size,0,none⟩) 5 fiveL:=by
   refine .inr ⟨w.heap.size,0,rfl,by simp,fun j hj=>?_⟩
   rw[Nat.zero_add,cell_of_block (heap_alloc_new w _) j]
   match j,hj with
   | 0,_=>rfl
   | 1,_=>rfl
   | 2,_=>rfl
   | 3,_=>rfl
   | 4,_=>rfl
   | k+5,hk=>omega
  refine (contains_any (some ⟨w.heap.size,0,none⟩) 5 5 fiveL d _ hc (by omega)).mono ?_
  rintro e w' ⟨rfl,rfl⟩
  refine⟨?_,rfl⟩
  rw[decide_eq_decide.mpr (five_has d)]
 have hB:=hid_of (bstart w (.cells #[.int .i64 1,.int .i64 2,.int .i64 4,.int .i64 8,.int .i64 16] 3))
 generalize decide (Five d)=b at h ⊢
 go_enter Tryz.func134,Tryz.ntmps134
 go_wp2_with fail
 refine (h.out _ rfl).mono ?_
 rintro e w1 ⟨rfl,rfl⟩
 go_wp2_with fail
 go_ret
 exact⟨rfl,hB.out⟩
theorem isSide_any (n:Int) (w:World):Calls Tryz.prog 120 #[.int .i64 n] w fun e w'=>e=.returned (.bool (decide (SideR n)))∧w'=w:=by
 by_cases h1:1≤n
 ·have d1:decide (1≤n)=true:=decide_eq_true h1
  have hh:decide (SideR n)=decide (n≤24):=decide_eq_decide.mpr ⟨fun h=>h.2,fun h=>⟨h1,h⟩⟩
  rw[hh]
  clear h1 hh
  generalize hb:decide (n≤24)=b
  go_enter Tryz.func120,Tryz.ntmps120
  go_wp2_with fail
  go_ret
  exact⟨rfl,rfl⟩
 ·have d1:decide (1≤n)=false:=decide_eq_false h1
  rw[decide_eq_false (fun h:SideR n=>h1 h.1)]
  clear h1
  go_enter Tryz.func120,Tryz.ntmps120
  go_wp2_with fail
  go_ret
  exact⟨rfl,rfl⟩
theorem implChannels (c:Int) (w:World):Calls Tryz.prog 39 #[.int .i64 c] w fun e w'=>e=.returned (.int .i64 (chan c))∧w'=w:=by
 unfold chan
 by_cases h0:c=0
 ·subst h0
  go_enter Tryz.func39,Tryz.ntmps39
  go_wp2_with fail
  go_ret
  exact⟨rfl,rfl⟩
 by_cases h3:c=3
 ·subst h3
  go_enter Tryz.func39,Tryz.ntmps39
  go_wp2_with fail
  go_ret
  exact⟨rfl,rfl⟩
 by_cases h2:c=2
 ·subst h2
  go_enter Tryz.func39,Tryz.ntmps39
  go_wp2_with fail
  go_ret
  exact⟨rfl,rfl⟩
 by_cases h4:c=4
 ·subst h4
  go_enter Tryz.func39,Tryz.ntmps39
  go_wp2_with fail
  go_ret
  exact⟨rfl,rfl⟩
 by_cases h6:c=6
 ·subst h6
  go_enter Tryz.func39,Tryz.ntmps39
  go_wp2_with fail
  go_ret
  exact⟨rfl,rfl⟩
 rw[if_neg (by omega),if_neg h2,if_neg h4,if_neg h6]
 have b0:=beq_no1 h0
 have b3:=beq_no1 h3
 have b2:=beq_no1 h2
 have b4:=beq_no1 h4
 have b6:=beq_no1 h6
 go_enter Tryz.func39,Tryz.ntmps39
 go_wp2_with fail
 go_ret
 exact⟨rfl,rfl⟩
theorem implDepth (c d:Int) (w:World):Calls Tryz.prog 121 #[.int .i64 c,.int .i64 d] w fun e w'=>e=.returned (.bool (decide (DepthR c d)))∧Below w.heap.size w w':=by
 by_cases h0:c=0
 ·subst h0
  have h:=isDepth_any d
  rw[show decide (Five d)=decide (DepthR 0 d) from decide_eq_decide.mpr ⟨fun h=>.inl ⟨rfl,h⟩,depth_five⟩] at h
  generalize decide (DepthR 0 d)=b at h ⊢
  go_enter Tryz.func121,Tryz.ntmps121
  go_wp2_with fail
  refine (h _).mono ?_
  rintro e w1 ⟨rfl,hB⟩
  have HB:=hid_of hB
  clear hB
  go_wp2_with fail
  go_ret
  exact⟨rfl,HB.out⟩
 by_cases h3:c=3
 ·subst h3
  by_cases h5:Five d
  ·have h:=isDepth_any d
   rw[decide_eq_true h5] at h
   have hh:decide (DepthR 3 d)=(d != 16):=by
    by_cases e:d=16
    ·subst e; decide
    ·rw[decide_eq_true (show DepthR 3 d from .inr (.inl ⟨rfl,h5,e⟩))]
     simp[e]
   rw[hh]
   clear h5 hh
   generalize hb:(d != 16)=b
   go_enter Tryz.func121,Tryz.ntmps121
   go_wp2_with fail
   refine (h _).mono ?_
   rintro e w1 ⟨rfl,hB⟩
   have HB:=hid_of hB
   clear hB
   go_wp2_with fail
   go_ret
   exact⟨rfl,HB.out⟩
  ·have h:=isDepth_any d
   rw[decide_eq_false h5] at h
   rw[decide_eq_false (fun h:DepthR 3 d=>h5 (depth_five h))]
   clear h5
   go_enter Tryz.func121,Tryz.ntmps121
   go_wp2_with fail
   refine (h _).mono ?_
   rintro e w1 ⟨rfl,hB⟩
   have HB:=hid_of hB
   clear hB
   go_wp2_with fail
   go_ret
   exact⟨rfl,HB.out⟩
 have hd:d=8∨d=16∨(¬ d=8∧¬ d=16):=by omega
 have hc:c=2∨c=4∨c=6∨(¬ c=2∧¬ c=4∧¬ c=6):=by omega
 rcases hc with rfl | rfl | rfl | ⟨h2,h4,h6⟩
 all_goals
  rcases hd with rfl | rfl | ⟨h8,h16⟩
 all_goals
  first
   | (rw [decide_eq_true (show DepthR _ _ by unfold DepthR Five; omega)])
   | (rw [decide_eq_false (show ¬ DepthR _ _ by unfold DepthR Five; omega)])
  try (have e0:=beq_no1 h0; have e3:=beq_no1 h3; have e2:=beq_no1 h2; have e4:=beq_no1 h4; have e6:=beq_no1 h6; clear h0 h3 h2 h4 h6)
  try (have g8:=beq_no1 h8; have g16:=beq_no1 h16; clear h8 h16)
  go_enter Tryz.func121,Tryz.ntmps121
  go_wp2_with fail
  go_ret
  exact⟨rfl,Below.refl _ _⟩
end Go.Proofs.YtkpbfmdnjnohlaaGreat
