/-
  The walks of what the laws do with a head: a copy of it, two that are compared.
-/
import Derived.Test.YtkpbfmdnjnohlaaRows
import Derived.Test.YtkpbfmdnjnohlaaBase
import Derived.WalkKit
import Derived.ProofKit
import Derived.WalkLawsBesides
import Derived.Below
import Derived.Lib.SmallJoins
namespace Go.Proofs.Ytkpbfmdnjnohlaa
open Go.RowKit Go.Joins

set_option maxHeartbeats 1600000 in
theorem toHead_any (x y d c : Int) (l : Bool) (w : World) :
    Calls Try.prog 27 #[.agg #[.int .i64 x, .int .i64 y, .int .i64 d, .int .i64 c, .bool l]] w fun e w' => e = .returned (.agg #[.int .i64 x, .int .i64 y, .int .i64 d, .int .i64 c, .bool l]) ∧ Below w.heap.size w w' := by
  go_enter Try.func27, Try.ntmps27
  go_wp2_with fail
  refine bodyPost_ret (v := .agg #[.int .i64 x, .int .i64 y, .int .i64 d, .int .i64 c, .bool l]) ?_ rfl ⟨rfl, ?_⟩
  · simp [results, Try.results27, go_sem, *]
  · first | exact bal (bal (bstart _ _) _) _ | exact bal (bstart _ _) _
theorem eqHead_same (x y d c : Int) (l : Bool) (w : World) :
    Calls Try.prog 37 #[.agg #[.int .i64 x, .int .i64 y, .int .i64 d, .int .i64 c, .bool l], .agg #[.int .i64 x, .int .i64 y, .int .i64 d, .int .i64 c, .bool l]] w fun e w' => e = .returned (.bool true) ∧ Below w.heap.size w w' := by
  have n0 : (x != x) = false := by simp
  have n1 : (y != y) = false := by simp
  have n2 : (d != d) = false := by simp
  have n3 : (c != c) = false := by simp
  have n4 : (l != l) = false := by simp
  go_enter Try.func37, Try.ntmps37
  go_wp2_with fail
  go_ret
  exact ⟨rfl, bal (bstart _ _) _⟩
end Go.Proofs.Ytkpbfmdnjnohlaa
