/-
  The walk of the program's hasCode.
-/
import Derived.Test.YtpecmolloohklaaRows
import Derived.Test.YtpecmolloohklaaBase
import Derived.Test.YtpecmolloohklaaIntsLib
import Derived.WalkKit
import Derived.ProofKit
import Derived.WalkLawsBesides
import Derived.Lib.SmallJoins
namespace Go.Proofs.Ytpecmolloohklaa
open Go.RowKit Go.Joins

set_option maxHeartbeats 400000 in
theorem has_yes (a : Option Addr) (n cap : Nat) (f : Nat → Int) (x : Nat) (w : World) (hC : Came w a n f) (hx : x < n) (hp : 0 < f x) :
    Calls Try.prog 35 #[.slice a n cap, .int .i64 (x : Int)] w fun e w' => e = .returned (.bool true) ∧ w' = w := by
  rcases hC with h0 | ⟨g, off, rfl, hg, hc⟩
  · omega
  · have c0 := hc x hx
    clear hc
    have d0 : decide ((x : Int) < (n : Int)) = true := by simpa using hx
    have d1 : decide (0 < f x) = true := by simpa using hp
    go_enter Try.func35, Try.ntmps35
    go_wp2_with fail
    go_ret
    exact ⟨rfl, rfl⟩

set_option maxHeartbeats 400000 in
theorem has_no (a : Option Addr) (n cap : Nat) (f : Nat → Int) (x : Int) (w : World) (hC : Came w a n f) (h : ¬ (0 ≤ x ∧ x < n ∧ 0 < f x.toNat)) :
    Calls Try.prog 35 #[.slice a n cap, .int .i64 x] w fun e w' => e = .returned (.bool false) ∧ w' = w := by
  by_cases h0 : 0 ≤ x
  · by_cases h1 : x < n
    · obtain ⟨y, rfl⟩ := Int.eq_ofNat_of_zero_le h0
      rcases hC with q0 | ⟨g, off, rfl, hg, hc⟩
      · omega
      · have c0 := hc y (by omega)
        have hq : ¬ 0 < f y := fun q => h ⟨h0, h1, by simpa using q⟩
        clear hc h
        have d0 : decide ((y : Int) < (n : Int)) = true := by simpa using h1
        have d1 : decide (0 < f y) = false := by simpa using hq
        go_enter Try.func35, Try.ntmps35
        go_wp2_with fail
        go_ret
        exact ⟨rfl, rfl⟩
    · clear h
      have dd : decide (0 ≤ x) = true := by simpa using h0
      have d0 : decide (x < (n : Int)) = false := by simpa using h1
      clear hC
      go_enter Try.func35, Try.ntmps35
      go_wp2_with fail
      go_ret
      exact ⟨rfl, rfl⟩
  · clear h
    have dd : decide (0 ≤ x) = false := by simpa using h0
    clear hC
    go_enter Try.func35, Try.ntmps35
    go_wp2_with fail
    go_ret
    exact ⟨rfl, rfl⟩

end Go.Proofs.Ytpecmolloohklaa
