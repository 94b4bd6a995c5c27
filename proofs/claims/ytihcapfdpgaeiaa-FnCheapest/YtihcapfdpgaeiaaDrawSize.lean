/-
  The walk of the model's draw of how great texts become.
-/
import Derived.Test.YtihcapfdpgaeiaaRows
import Derived.Test.YtihcapfdpgaeiaaBase
import Derived.WalkKit
import Derived.ProofKit
import Derived.WalkLawsBesides
import Derived.Lib.SmallJoins
namespace Go.Proofs.Ytihcapfdpgaeiaa
open Go.RowKit Go.Joins

theorem draw_size (a : Option Addr) (len cap : Nat) (w : World) (hl : len ≤ 1048576) : Calls Try.prog 27 #[.slice a len cap] w fun e w' => ∃ n : Int, e = .returned (.int .i64 n) ∧ 30 ≤ n ∧ n ≤ 300 ∧ w' = w := by
  by_cases h : 270 < len
  · have d : decide ((300 : Int) < 30 + (len : Int)) = true := decide_eq_true (by omega)
    have d2 : (300 : Int) < 30 + (len : Int) := by omega
    go_enter Try.func27, Try.ntmps27
    go_wp2_with fail
    go_ret
    exact ⟨300, rfl, by omega, by omega, rfl⟩
  · have d : decide ((300 : Int) < 30 + (len : Int)) = false := decide_eq_false (by omega)
    have d2 : ¬ (300 : Int) < 30 + (len : Int) := by omega
    go_enter Try.func27, Try.ntmps27
    go_wp2_with fail
    go_ret
    exact ⟨30 + (len : Int), rfl, by omega, by omega, rfl⟩

end Go.Proofs.Ytihcapfdpgaeiaa
