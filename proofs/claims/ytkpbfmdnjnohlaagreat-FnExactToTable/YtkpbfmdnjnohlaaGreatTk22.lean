/-
  Texts of the proof, put together.
-/
import Derived.Test.YtkpbfmdnjnohlaaGreatTk20
import Derived.Test.YtkpbfmdnjnohlaaGreatTk21
namespace Go.Proofs.YtkpbfmdnjnohlaaGreat
open Go.RowKit Go.Joins RastMath BigMath BigTextMath HeadMath
set_option maxRecDepth 100000 in
set_option maxHeartbeats 1600000 in
theorem specHeadOk (x y d c:Int) (l:Bool) (w:World):
  Calls Tryz.prog 91 #[.agg #[.int .i64 x,.int .i64 y,.int .i64 d,.int .i64 c,.bool l]] w fun e w'=>e=.returned (.bool (decide (HeadR x y d c)))∧Below w.heap.size w w':=by
 have hs0:=specSide x
 have hs1:=specSide y
 have hd:=specDepthOk c d
 have HB:=hid_of (bstart w (.cells #[.int .i64 x,.int .i64 y,.int .i64 d,.int .i64 c,.bool l] 32))
 by_cases h0:SideR x
 ·rw[decide_eq_true h0] at hs0
  by_cases h1:SideR y
  ·rw[decide_eq_true h1] at hs1
   rw[show decide (HeadR x y d c)=decide (DepthR c d) from decide_eq_decide.mpr ⟨fun h=>h.2.2,fun h=>⟨h0,h1,h⟩⟩]
   generalize decide (DepthR c d)=b at hd ⊢
   clear h0 h1
   go_enter Tryz.func91,Tryz.ntmps91
   go_wp2_with fail
   refine (hs0 _).mono ?_
   rintro e w1 ⟨rfl,rfl⟩
   go_wp2_with fail
   refine (hs1 _).mono ?_
   rintro e w1 ⟨rfl,rfl⟩
   go_wp2_with fail
   refine (hd _).mono ?_
   rintro e w1 ⟨rfl,rfl⟩
   go_wp2_with fail
   go_ret
   exact⟨rfl,HB.out⟩
  ·rw[decide_eq_false h1] at hs1
   rw[decide_eq_false (fun h:HeadR x y d c=>h1 h.2.1)]
   clear h0 h1
   go_enter Tryz.func91,Tryz.ntmps91
   go_wp2_with fail
   refine (hs0 _).mono ?_
   rintro e w1 ⟨rfl,rfl⟩
   go_wp2_with fail
   refine (hs1 _).mono ?_
   rintro e w1 ⟨rfl,rfl⟩
   go_wp2_with fail
   go_ret
   exact⟨rfl,HB.out⟩
 ·rw[decide_eq_false h0] at hs0
  rw[decide_eq_false (fun h:HeadR x y d c=>h0 h.1)]
  clear h0
  go_enter Tryz.func91,Tryz.ntmps91
  go_wp2_with fail
  refine (hs0 _).mono ?_
  rintro e w1 ⟨rfl,rfl⟩
  go_wp2_with fail
  go_ret
  exact⟨rfl,HB.out⟩
end Go.Proofs.YtkpbfmdnjnohlaaGreat
