/-
  The walks of what the laws do with a head: a copy of it, two that are compared.
-/
import Derived.Test.YtcnlcbkgbcnloabRows
import Derived.Test.YtcnlcbkgbcnloabBase
import Derived.WalkKit
import Derived.ProofKit
import Derived.WalkLawsBesides
import Derived.Below
import Derived.Lib.SmallJoins
namespace Go.Proofs.Ytcnlcbkgbcnloab
open Go.RowKit Go.Joins

set_option maxHeartbeats 1600000 in
theorem toHead_any (x y d c : Int) (l : Bool) (w : World) :
    Calls Try.prog 7 #[.agg #[.int .i64 x, .int .i64 y, .int .i64 d, .int .i64 c, .bool l]] w fun e w' => e = .returned (.agg #[.int .i64 x, .int .i64 y, .int .i64 d, .int .i64 c, .bool l]) ∧ Below w.heap.size w w' := by
  go_enter Try.func7, Try.ntmps7
  go_wp2_with fail
  refine bodyPost_ret (v := .agg #[.int .i64 x, .int .i64 y, .int .i64 d, .int .i64 c, .bool l]) ?_ rfl ⟨rfl, ?_⟩
  · simp [results, Try.results7, go_sem, *]
  · first | exact bal (bal (bstart _ _) _) _ | exact bal (bstart _ _) _
end Go.Proofs.Ytcnlcbkgbcnloab
