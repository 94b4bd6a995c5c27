/-
  The walk of the program's symbols of lengths.
-/
import Derived.Test.YtihcapfdpgaeiaaRows
import Derived.Test.YtihcapfdpgaeiaaBase
import Derived.Test.YtihcapfdpgaeiaaOutMath
import Derived.Test.YtihcapfdpgaeiaaRetLib
import Derived.Test.YtihcapfdpgaeiaaStepMath
import Derived.Test.YtihcapfdpgaeiaaStepLib
import Derived.Test.YtihcapfdpgaeiaaSymStep
import Derived.Test.YtihcapfdpgaeiaaSymCodeImpl
import Derived.Test.YtihcapfdpgaeiaaLenCodeAns
import Derived.WalkKit
import Derived.ProofKit
import Derived.WalkLawsBesides
import Derived.Deep.QuietTactic
import Derived.BigQuiet
import Derived.Lib.SmallJoins
namespace Go.Proofs.Ytihcapfdpgaeiaa
open Go.RowKit Go.Joins OutMath StepMath

theorem isLength_any (x : Int) (w : World) :
    Calls Try.prog 61 #[.int .i64 x] w fun e w' => e = .returned (.bool (decide (3 ≤ x ∧ x ≤ 258))) ∧ w' = w := by
  by_cases h : 3 ≤ x
  · have d : decide ((3 : Int) ≤ x) = true := decide_eq_true h
    have d2 : decide ((3 : Int) ≤ x ∧ x ≤ 258) = decide (x ≤ 258) := by simp [h]
    rw [d2]
    clear d2
    go_enter Try.func61, Try.ntmps61
    go_wp2_with fail
    go_ret
    exact ⟨rfl, rfl⟩
  · have d : decide ((3 : Int) ≤ x) = false := decide_eq_false h
    have d2 : decide ((3 : Int) ≤ x ∧ x ≤ 258) = false := decide_eq_false (fun q => h q.1)
    rw [d2]
    clear d2
    go_enter Try.func61, Try.ntmps61
    go_wp2_with fail
    go_ret
    exact ⟨rfl, rfl⟩
theorem isLength_yes (x : Int) (w : World) (h : 3 ≤ x ∧ x ≤ 258) :
    Calls Try.prog 61 #[.int .i64 x] w fun e w' => e = .returned (.bool true) ∧ w' = w := by
  have := isLength_any x w
  rwa [decide_eq_true h] at this
theorem isLength_no (x : Int) (w : World) (h : ¬ (3 ≤ x ∧ x ≤ 258)) :
    Calls Try.prog 61 #[.int .i64 x] w fun e w' => e = .returned (.bool false) ∧ w' = w := by
  have := isLength_any x w
  rwa [decide_eq_false h] at this

set_option maxHeartbeats 800000 in
theorem lengthCode_answer : LengthCodeAnswer := by
  intro n w _
  by_cases h : 3 ≤ n ∧ n ≤ 258
  · obtain ⟨h3, h258⟩ := h
    obtain ⟨m, rfl⟩ : ∃ m : Nat, n = (m : Int) + 3 := ⟨(n - 3).toNat, by omega⟩
    unfold LengthCodeOf
    rw [if_pos ⟨h3, h258⟩, show ((m : Int) + 3).toNat = m + 3 by omega]
    by_cases he : m = 255
    · subst he
      go_enter Try.func56, Try.ntmps56
      go_wp2_with fail
      refine (isLength_yes _ _ (by omega)).mono ?_
      rintro e w' ⟨rfl, rfl⟩
      go_wp2_with fail
      go_ret3
      exact ⟨rfl, Below.refl _ _⟩
    · have hl := len_sym m (by omega)
      have hs := fun w => symbolOf_any 2 m w (by omega) (by omega) (by omega)
      rw [hl.1]
      have hB := hl.2
      clear hl
      obtain ⟨c, hc⟩ : ∃ c, c = Lib.bitLen m - 3 := ⟨_, rfl⟩
      simp only [show 2 + 1 = 3 from rfl, ← hc] at hs
      rw [← hc]
      have hq := Nat.div_le_self m (2 ^ c)
      have hcl : c ≤ 5 := by omega
      have d : ((m : Int) + 3 == 258) = false := by simp; omega
      have hq2 : (((c * 2 ^ 2 + m / 2 ^ c : Nat) : Int) = ((c * 4 + m / 2 ^ c : Nat) : Int)) := rfl
      rw [hq2] at hs
      clear hc hB hq2
      generalize m / 2 ^ c = q at *
      generalize m % 2 ^ c = r at *
      obtain ⟨s, hsm⟩ : ∃ s, s = c * 4 + q := ⟨_, rfl⟩
      rw [← hsm] at hs ⊢
      have hsl : s ≤ 300 := by omega
      clear hsm
      go_enter Try.func56, Try.ntmps56
      go_wp2_with fail
      refine (isLength_yes _ _ (by omega)).mono ?_
      rintro e w' ⟨rfl, rfl⟩
      go_wp2_with fail
      refine (hs _).mono ?_
      rintro e w1 ⟨rfl, hB1⟩
      have HB := hid_of hB1
      clear hB1 hs
      go_wp2_with fail
      go_ret3
      exact ⟨ret_iii (by omega) rfl rfl, HB.out⟩
  · unfold LengthCodeOf
    rw [if_neg h]
    go_enter Try.func56, Try.ntmps56
    go_wp2_with fail
    refine (isLength_no _ _ h).mono ?_
    rintro e w' ⟨rfl, rfl⟩
    go_wp2_with fail
    go_ret3
    exact ⟨rfl, Below.refl _ _⟩

end Go.Proofs.Ytihcapfdpgaeiaa
