/-
  Texts of the proof, put together.
-/
import Derived.Test.YtkpbfmdnjnohlaaGreatTk19
namespace Go.Proofs.YtkpbfmdnjnohlaaGreat
open Go.RowKit Go.Joins RastMath
theorem beq_no {a b:Int} (h:¬ a=b):(a == b)=false:=by simpa using h
theorem specChannels (c:Int) (w:World):Calls Tryz.prog 28 #[.int .i64 c] w fun e w'=>e=.returned (.int .i64 (chan c))∧w'=w:=by
 unfold chan
 by_cases h0:c=0
 ·subst h0
  go_enter Tryz.func28,Tryz.ntmps28
  go_wp2_with fail
  go_ret
  exact⟨rfl,rfl⟩
 by_cases h3:c=3
 ·subst h3
  go_enter Tryz.func28,Tryz.ntmps28
  go_wp2_with fail
  go_ret
  exact⟨rfl,rfl⟩
 by_cases h2:c=2
 ·subst h2
  go_enter Tryz.func28,Tryz.ntmps28
  go_wp2_with fail
  go_ret
  exact⟨rfl,rfl⟩
 by_cases h4:c=4
 ·subst h4
  go_enter Tryz.func28,Tryz.ntmps28
  go_wp2_with fail
  go_ret
  exact⟨rfl,rfl⟩
 by_cases h6:c=6
 ·subst h6
  go_enter Tryz.func28,Tryz.ntmps28
  go_wp2_with fail
  go_ret
  exact⟨rfl,rfl⟩
 rw[if_neg (by omega),if_neg h2,if_neg h4,if_neg h6]
 have b0:=beq_no h0
 have b3:=beq_no h3
 have b2:=beq_no h2
 have b4:=beq_no h4
 have b6:=beq_no h6
 go_enter Tryz.func28,Tryz.ntmps28
 go_wp2_with fail
 go_ret
 exact⟨rfl,rfl⟩
set_option maxHeartbeats 1600000 in
theorem specDepthOk (c d:Int) (w:World):Calls Tryz.prog 114 #[.int .i64 c,.int .i64 d] w fun e w'=>e=.returned (.bool (decide (DepthR c d)))∧w'=w:=by
 have hd:d=1∨d=2∨d=4∨d=8∨d=16∨¬ Five d:=by
  unfold Five
  omega
 have hc:c=0∨c=3∨c=2∨c=4∨c=6∨(¬ c=0∧¬ c=3∧¬ c=2∧¬ c=4∧¬ c=6):=by omega
 rcases hc with rfl | rfl | rfl | rfl | rfl | ⟨h0,h3,h2,h4,h6⟩
 all_goals
  rcases hd with rfl | rfl | rfl | rfl | rfl | hd
 all_goals
  first
   | (rw [decide_eq_true (show DepthR _ _ by unfold DepthR Five; omega)])
   | (rw [decide_eq_false (show ¬ DepthR _ _ by unfold DepthR Five; omega)])
   | (rw [decide_eq_false (show ¬ DepthR _ _ from fun h=>hd (depth_five h))])
  try (have e0:=beq_no h0; have e3:=beq_no h3; have e2:=beq_no h2; have e4:=beq_no h4; have e6:=beq_no h6; clear h0 h3 h2 h4 h6)
  try (unfold Five at hd; have g1:=beq_no (a:=d) (b:=1) (by omega); have g2:=beq_no (a:=d) (b:=2) (by omega); have g4:=beq_no (a:=d) (b:=4) (by omega); have g8:=beq_no (a:=d) (b:=8) (by omega); have g16:=beq_no (a:=d) (b:=16) (by omega); clear hd)
  go_enter Tryz.func114,Tryz.ntmps114
  go_wp2_with fail
  go_ret
  exact⟨rfl,rfl⟩
theorem specSide (n:Int) (w:World):Calls Tryz.prog 113 #[.int .i64 n] w fun e w'=>e=.returned (.bool (decide (SideR n)))∧w'=w:=by
 by_cases h:SideR n
 ·rw[decide_eq_true h]
  go_enter Tryz.func113,Tryz.ntmps113
  go_wp2_with fail
  refine (in_yes n 1 24 _ h.1 h.2).mono ?_
  rintro e w1 ⟨rfl,rfl⟩
  go_wp2_with fail
  go_ret
  exact⟨rfl,rfl⟩
 ·rw[decide_eq_false h]
  go_enter Tryz.func113,Tryz.ntmps113
  go_wp2_with fail
  refine (in_no n 1 24 _ h).mono ?_
  rintro e w1 ⟨rfl,rfl⟩
  go_wp2_with fail
  go_ret
  exact⟨rfl,rfl⟩
end Go.Proofs.YtkpbfmdnjnohlaaGreat
