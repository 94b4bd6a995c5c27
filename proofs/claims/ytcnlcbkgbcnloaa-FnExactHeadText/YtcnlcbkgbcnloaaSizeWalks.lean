/-
  The walk of the program's test of a size.
-/
import Derived.Test.YtcnlcbkgbcnloaaRows
import Derived.WalkKit
import Derived.ProofKit
import Derived.WalkLawsBesides
namespace Go.Proofs.Ytcnlcbkgbcnloaa
open Go.RowKit

theorem size_yes (x : Int) (w : World) (h1 : 1 ≤ x) (h2 : x ≤ 4) :
    Calls Try.prog 74 #[.int .i64 x] w fun e w' => e = .returned (.bool true) ∧ w' = w := by
  go_enter Try.func74, Try.ntmps74
  go_wp2
  go_ret
  exact ⟨rfl, rfl⟩

theorem size_no (x : Int) (w : World) (h : ¬ (1 ≤ x ∧ x ≤ 4)) :
    Calls Try.prog 74 #[.int .i64 x] w fun e w' => e = .returned (.bool false) ∧ w' = w := by
  by_cases h1 : 1 ≤ x
  · have h2 : ¬ x ≤ 4 := fun k => h ⟨h1, k⟩
    clear h
    go_enter Try.func74, Try.ntmps74
    go_wp2
    go_ret
    exact ⟨rfl, rfl⟩
  · clear h
    go_enter Try.func74, Try.ntmps74
    go_wp2
    go_ret
    exact ⟨rfl, rfl⟩

end Go.Proofs.Ytcnlcbkgbcnloaa
