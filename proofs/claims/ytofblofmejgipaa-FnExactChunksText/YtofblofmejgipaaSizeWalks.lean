/-
  The walk of the program's test of a size.
-/
import Derived.Test.YtofblofmejgipaaRows
import Derived.WalkKit
import Derived.ProofKit
import Derived.WalkLawsBesides
namespace Go.Proofs.Ytofblofmejgipaa
open Go.RowKit

theorem size_yes (x : Int) (w : World) (h1 : 1 ≤ x) (h2 : x ≤ 4) :
    Calls Try.prog 56 #[.int .i64 x] w fun e w' => e = .returned (.bool true) ∧ w' = w := by
  go_enter Try.func56, Try.ntmps56
  go_wp2
  go_ret
  exact ⟨rfl, rfl⟩

theorem size_no (x : Int) (w : World) (h : ¬ (1 ≤ x ∧ x ≤ 4)) :
    Calls Try.prog 56 #[.int .i64 x] w fun e w' => e = .returned (.bool false) ∧ w' = w := by
  by_cases h1 : 1 ≤ x
  · have h2 : ¬ x ≤ 4 := fun k => h ⟨h1, k⟩
    clear h
    go_enter Try.func56, Try.ntmps56
    go_wp2
    go_ret
    exact ⟨rfl, rfl⟩
  · clear h
    go_enter Try.func56, Try.ntmps56
    go_wp2
    go_ret
    exact ⟨rfl, rfl⟩

end Go.Proofs.Ytofblofmejgipaa
