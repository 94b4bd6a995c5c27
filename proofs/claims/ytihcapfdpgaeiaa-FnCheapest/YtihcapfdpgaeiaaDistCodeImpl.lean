/-
  The walk of the program's symbols of distances.
-/
import Derived.Test.YtihcapfdpgaeiaaRows
import Derived.Test.YtihcapfdpgaeiaaBase
import Derived.Test.YtihcapfdpgaeiaaOutMath
import Derived.Test.YtihcapfdpgaeiaaRetLib
import Derived.Test.YtihcapfdpgaeiaaStepMath
import Derived.Test.YtihcapfdpgaeiaaStepLib
import Derived.Test.YtihcapfdpgaeiaaSymStep
import Derived.Test.YtihcapfdpgaeiaaSymCodeImpl
import Derived.Test.YtihcapfdpgaeiaaDistCodeAns
import Derived.WalkKit
import Derived.ProofKit
import Derived.WalkLawsBesides
import Derived.Deep.QuietTactic
import Derived.BigQuiet
import Derived.Lib.SmallJoins
namespace Go.Proofs.Ytihcapfdpgaeiaa
open Go.RowKit Go.Joins OutMath StepMath

theorem isDist_any (x : Int) (w : World) :
    Calls Try.prog 62 #[.int .i64 x] w fun e w' => e = .returned (.bool (decide (1 ≤ x ∧ x ≤ 32768))) ∧ w' = w := by
  by_cases h : 1 ≤ x
  · have d : decide ((1 : Int) ≤ x) = true := decide_eq_true h
    have d2 : decide ((1 : Int) ≤ x ∧ x ≤ 32768) = decide (x ≤ 32768) := by simp [h]
    rw [d2]
    clear d2
    go_enter Try.func62, Try.ntmps62
    go_wp2_with fail
    go_ret
    exact ⟨rfl, rfl⟩
  · have d : decide ((1 : Int) ≤ x) = false := decide_eq_false h
    have d2 : decide ((1 : Int) ≤ x ∧ x ≤ 32768) = false := decide_eq_false (fun q => h q.1)
    rw [d2]
    clear d2
    go_enter Try.func62, Try.ntmps62
    go_wp2_with fail
    go_ret
    exact ⟨rfl, rfl⟩
theorem isDist_yes (x : Int) (w : World) (h : 1 ≤ x ∧ x ≤ 32768) :
    Calls Try.prog 62 #[.int .i64 x] w fun e w' => e = .returned (.bool true) ∧ w' = w := by
  have := isDist_any x w
  rwa [decide_eq_true h] at this
theorem isDist_no (x : Int) (w : World) (h : ¬ (1 ≤ x ∧ x ≤ 32768)) :
    Calls Try.prog 62 #[.int .i64 x] w fun e w' => e = .returned (.bool false) ∧ w' = w := by
  have := isDist_any x w
  rwa [decide_eq_false h] at this
set_option maxHeartbeats 800000 in
theorem distCode_answer : DistCodeAnswer := by
  intro n w _
  by_cases h : 1 ≤ n ∧ n ≤ 32768
  · obtain ⟨h3, h258⟩ := h
    obtain ⟨m, rfl⟩ : ∃ m : Nat, n = (m : Int) + 1 := ⟨(n - 1).toNat, by omega⟩
    unfold DistCodeOf
    rw [if_pos ⟨h3, h258⟩, show ((m : Int) + 1).toNat = m + 1 by omega]
    have hl := dist_sym (n := m) (by omega)
    have hs := fun w => symbolOf_any 1 m w (by omega) (by omega) hl.2
    rw [hl.1]
    have hB := hl.2
    clear hl
    obtain ⟨c, hc⟩ : ∃ c, c = Lib.bitLen m - 2 := ⟨_, rfl⟩
    simp only [show 1 + 1 = 2 from rfl, ← hc] at hs
    rw [← hc]
    have hq2 : (((c * 2 ^ 1 + m / 2 ^ c : Nat) : Int) = ((c * 2 + m / 2 ^ c : Nat) : Int)) := rfl
    rw [hq2] at hs
    clear hc hB hq2
    generalize c * 2 + m / 2 ^ c = q at *
    generalize m % 2 ^ c = r at *
    go_enter Try.func57, Try.ntmps57
    go_wp2_with fail
    refine (isDist_yes _ _ (by omega)).mono ?_
    rintro e w' ⟨rfl, rfl⟩
    go_wp2_with fail
    refine (hs _).mono ?_
    rintro e w1 ⟨rfl, hB1⟩
    have HB := hid_of hB1
    clear hB1 hs
    go_wp2_with fail
    go_ret3
    exact ⟨rfl, HB.out⟩
  · unfold DistCodeOf
    rw [if_neg h]
    go_enter Try.func57, Try.ntmps57
    go_wp2_with fail
    refine (isDist_no _ _ h).mono ?_
    rintro e w' ⟨rfl, rfl⟩
    go_wp2_with fail
    go_ret3
    exact ⟨rfl, Below.refl _ _⟩

end Go.Proofs.Ytihcapfdpgaeiaa
