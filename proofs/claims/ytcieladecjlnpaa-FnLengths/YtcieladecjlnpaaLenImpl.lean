/-
  The walks of the program's functions on lengths.
-/
import Derived.Test.YtcieladecjlnpaaRows
import Derived.Test.YtcieladecjlnpaaBase
import Derived.Test.YtcieladecjlnpaaOutMath
import Derived.Test.YtcieladecjlnpaaRetLib
import Derived.Test.YtcieladecjlnpaaStepMath
import Derived.Test.YtcieladecjlnpaaStepLib
import Derived.Test.YtcieladecjlnpaaSymStep
import Derived.Test.YtcieladecjlnpaaSymStepImpl
import Derived.Test.YtcieladecjlnpaaLenAns
import Derived.WalkKit
import Derived.ProofKit
import Derived.WalkLawsBesides
import Derived.Deep.QuietTactic
import Derived.BigQuiet
import Derived.Lib.SmallJoins
namespace Go.Proofs.Ytcieladecjlnpaa
open Go.RowKit Go.Joins OutMath StepMath

theorem isLength_any (x : Int) (w : World) :
    Calls Try.prog 29 #[.int .i64 x] w fun e w' => e = .returned (.bool (decide (3 ≤ x ∧ x ≤ 258))) ∧ w' = w := by
  by_cases h : 3 ≤ x
  · have d : decide ((3 : Int) ≤ x) = true := decide_eq_true h
    have d2 : decide ((3 : Int) ≤ x ∧ x ≤ 258) = decide (x ≤ 258) := by simp [h]
    rw [d2]
    clear d2
    go_enter Try.func29, Try.ntmps29
    go_wp2_with fail
    go_ret
    exact ⟨rfl, rfl⟩
  · have d : decide ((3 : Int) ≤ x) = false := decide_eq_false h
    have d2 : decide ((3 : Int) ≤ x ∧ x ≤ 258) = false := decide_eq_false (fun q => h q.1)
    rw [d2]
    clear d2
    go_enter Try.func29, Try.ntmps29
    go_wp2_with fail
    go_ret
    exact ⟨rfl, rfl⟩
theorem isLength_yes (x : Int) (w : World) (h : 3 ≤ x ∧ x ≤ 258) :
    Calls Try.prog 29 #[.int .i64 x] w fun e w' => e = .returned (.bool true) ∧ w' = w := by
  have := isLength_any x w
  rwa [decide_eq_true h] at this
theorem isLength_no (x : Int) (w : World) (h : ¬ (3 ≤ x ∧ x ≤ 258)) :
    Calls Try.prog 29 #[.int .i64 x] w fun e w' => e = .returned (.bool false) ∧ w' = w := by
  have := isLength_any x w
  rwa [decide_eq_false h] at this

theorem lengthBits_any (j : Nat) (w : World) (h : j < 28) :
    Calls Try.prog 31 #[.int .i64 (257 + (j : Int))] w fun e w' => e = .returned (.int .i64 ((j / 4 - 1 : Nat) : Int)) ∧ w' = w := by
  have d : ((257 : Int) + (j : Int) == 285) = false := by simp; omega
  have hs : ∀ w, Calls Try.prog 44 #[.int .i64 (257 + (j : Int) - 257), .int .i64 2] w fun e w' => e = .returned (.int .i64 ((j / 4 - 1 : Nat) : Int)) ∧ w' = w := fun w => by
    rw [show (257 : Int) + (j : Int) - 257 = (j : Int) by omega]
    exact symbolBits_any 2 j w (by omega) (by omega)
  go_enter Try.func31, Try.ntmps31
  go_wp2_with fail
  refine (hs _).mono ?_
  rintro e w' ⟨rfl, rfl⟩
  go_wp2_with fail
  go_ret
  exact ⟨rfl, rfl⟩
theorem lengthBits_last (w : World) :
    Calls Try.prog 31 #[.int .i64 285] w fun e w' => e = .returned (.int .i64 0) ∧ w' = w := by
  go_enter Try.func31, Try.ntmps31
  go_wp2_with fail
  go_ret
  exact ⟨rfl, rfl⟩

set_option maxHeartbeats 800000 in
theorem lengthCode_answer : LengthCodeAnswer := by
  intro n w _
  by_cases h : 3 ≤ n ∧ n ≤ 258
  · obtain ⟨h3, h258⟩ := h
    obtain ⟨m, rfl⟩ : ∃ m : Nat, n = (m : Int) + 3 := ⟨(n - 3).toNat, by omega⟩
    unfold LengthCodeOf
    rw [if_pos ⟨h3, h258⟩, show ((m : Int) + 3).toNat = m + 3 by omega]
    by_cases he : m = 255
    · subst he
      go_enter Try.func11, Try.ntmps11
      go_wp2_with fail
      refine (isLength_yes _ _ (by omega)).mono ?_
      rintro e w' ⟨rfl, rfl⟩
      go_wp2_with fail
      go_ret3
      exact ⟨rfl, Below.refl _ _⟩
    · have hl := len_sym m (by omega)
      have hs := fun w => symbolOf_any 2 m w (by omega) (by omega) (by omega)
      rw [hl.1]
      have hB := hl.2
      clear hl
      obtain ⟨c, hc⟩ : ∃ c, c = Lib.bitLen m - 3 := ⟨_, rfl⟩
      simp only [show 2 + 1 = 3 from rfl, ← hc] at hs
      rw [← hc]
      have hq := Nat.div_le_self m (2 ^ c)
      have hcl : c ≤ 5 := by omega
      have d : ((m : Int) + 3 == 258) = false := by simp; omega
      have hq2 : (((c * 2 ^ 2 + m / 2 ^ c : Nat) : Int) = ((c * 4 + m / 2 ^ c : Nat) : Int)) := rfl
      rw [hq2] at hs
      clear hc hB hq2
      generalize m / 2 ^ c = q at *
      generalize m % 2 ^ c = r at *
      obtain ⟨s, hsm⟩ : ∃ s, s = c * 4 + q := ⟨_, rfl⟩
      rw [← hsm] at hs ⊢
      have hsl : s ≤ 300 := by omega
      clear hsm
      go_enter Try.func11, Try.ntmps11
      go_wp2_with fail
      refine (isLength_yes _ _ (by omega)).mono ?_
      rintro e w' ⟨rfl, rfl⟩
      go_wp2_with fail
      refine (hs _).mono ?_
      rintro e w1 ⟨rfl, hB1⟩
      have HB := hid_of hB1
      clear hB1 hs
      go_wp2_with fail
      go_ret3
      exact ⟨ret_iii (by omega) rfl rfl, HB.out⟩
  · unfold LengthCodeOf
    rw [if_neg h]
    go_enter Try.func11, Try.ntmps11
    go_wp2_with fail
    refine (isLength_no _ _ h).mono ?_
    rintro e w' ⟨rfl, rfl⟩
    go_wp2_with fail
    go_ret3
    exact ⟨rfl, Below.refl _ _⟩

theorem lenBits_last : lenBits 285 = (0, 258) := rfl
set_option maxHeartbeats 1600000 in
theorem lengthOf_answer : LengthOfAnswer := by
  intro s x w _ _
  by_cases h1 : 257 ≤ s
  · by_cases h2 : s ≤ 285
    · by_cases h3 : 0 ≤ x
      · have d1 : decide (s < 257) = false := decide_eq_false (by omega)
        have d2 : decide ((285 : Int) < s) = false := decide_eq_false (by omega)
        have d3 : decide (x < 0) = false := decide_eq_false (by omega)
        by_cases h4 : s = 285
        · subst h4
          by_cases h5 : x < 1
          · obtain rfl : x = 0 := by omega
            have he : LengthOfR 285 0 = (258, true) := by decide
            rw [he]
            go_enter Try.func12, Try.ntmps12
            go_wp2_with fail
            refine (lengthBits_last _).mono ?_
            rintro e w' ⟨rfl, rfl⟩
            go_wp2_with fail
            go_ret2
            exact ⟨rfl, Below.refl _ _⟩
          · have he : LengthOfR 285 x = (0, false) := by
              unfold LengthOfR
              rw [if_neg (fun q => h5 q.2.2)]
            have d4 : decide ((1 : Int) ≤ x) = true := decide_eq_true (by omega)
            rw [he]
            go_enter Try.func12, Try.ntmps12
            go_wp2_with fail
            refine (lengthBits_last _).mono ?_
            rintro e w' ⟨rfl, rfl⟩
            go_wp2_with fail
            go_ret2
            exact ⟨rfl, Below.refl _ _⟩
        · obtain ⟨j, rfl⟩ : ∃ j : Nat, s = 257 + (j : Int) := ⟨(s - 257).toNat, by omega⟩
          have hj : j < 28 := by omega
          obtain ⟨hl, hc5⟩ := len_least j hj
          have d4 : ((257 : Int) + (j : Int) == 285) = false := by simp; omega
          have hlb := fun w => lengthBits_any j w hj
          have hnum : ∀ w, Calls Try.prog 32 #[.int .i64 (257 + (j : Int) - 257), .int .i64 2] w fun e w' => e = .returned (.int .i64 (((j - (j / 4 - 1) * 4) * 2 ^ (j / 4 - 1) : Nat) : Int)) ∧ w' = w := fun w => by
            rw [show (257 : Int) + (j : Int) - 257 = (j : Int) by omega]
            exact numberOf_any 2 j w (.inr rfl) (by omega)
          have hsz : (j - (j / 4 - 1) * 4) * 2 ^ (j / 4 - 1) ≤ 1000 := (show ∀ j, j < 28 → (j - (j / 4 - 1) * 4) * 2 ^ (j / 4 - 1) ≤ 1000 by decide +kernel) j hj
          unfold LengthOfR
          rw [show ((257 : Int) + (j : Int)).toNat = 257 + j by omega, hl]
          generalize (j - (j / 4 - 1) * 4) * 2 ^ (j / 4 - 1) = z at *
          generalize j / 4 - 1 = c at *
          obtain ⟨q, hq1, hq2, hq3⟩ := pow_named c (by omega)
          show Calls Try.prog 12 _ _ fun e w' => e = .returned (.tuple #[.int .i64 (if (257 ≤ 257 + (j : Int) ∧ 257 + (j : Int) ≤ 285) ∧ 0 ≤ x ∧ x < 2 ^ c then (((3 + z : Nat) : Int) + x, true) else (0, false)).1, .bool (if (257 ≤ 257 + (j : Int) ∧ 257 + (j : Int) ≤ 285) ∧ 0 ≤ x ∧ x < 2 ^ c then (((3 + z : Nat) : Int) + x, true) else (0, false)).2]) ∧ _
          rw [← hq1]
          clear hq1 hl
          by_cases h5 : x < (q : Int)
          · have d5 : decide ((q : Int) ≤ x) = false := decide_eq_false (by omega)
            rw [if_pos ⟨⟨h1, h2⟩, h3, h5⟩]
            go_enter Try.func12, Try.ntmps12
            go_wp2_with fail
            refine (hlb _).mono ?_
            rintro e w' ⟨rfl, rfl⟩
            go_wp2_with fail
            refine (hnum _).mono ?_
            rintro e w1 ⟨rfl, rfl⟩
            clear hlb hnum
            go_wp2_with fail
            go_ret2
            exact ⟨ret_ib (by omega) rfl, Below.refl _ _⟩
          · have d5 : decide ((q : Int) ≤ x) = true := decide_eq_true (by omega)
            rw [if_neg (fun q => h5 q.2.2)]
            go_enter Try.func12, Try.ntmps12
            go_wp2_with fail
            refine (hlb _).mono ?_
            rintro e w' ⟨rfl, rfl⟩
            go_wp2_with fail
            go_ret2
            exact ⟨rfl, Below.refl _ _⟩
      · have he : LengthOfR s x = (0, false) := by
          unfold LengthOfR
          rw [if_neg (fun q => h3 q.2.1)]
        have d1 : decide (s < 257) = false := decide_eq_false (by omega)
        have d2 : decide ((285 : Int) < s) = false := decide_eq_false (by omega)
        have d3 : decide (x < 0) = true := decide_eq_true (by omega)
        rw [he]
        go_enter Try.func12, Try.ntmps12
        go_wp2_with fail
        go_ret2
        exact ⟨rfl, Below.refl _ _⟩
    · have he : LengthOfR s x = (0, false) := by
        unfold LengthOfR
        rw [if_neg (fun q => h2 q.1.2)]
      have d1 : decide (s < 257) = false := decide_eq_false (by omega)
      have d2 : decide ((285 : Int) < s) = true := decide_eq_true (by omega)
      rw [he]
      go_enter Try.func12, Try.ntmps12
      go_wp2_with fail
      go_ret2
      exact ⟨rfl, Below.refl _ _⟩
  · have he : LengthOfR s x = (0, false) := by
      unfold LengthOfR
      rw [if_neg (fun q => h1 q.1.1)]
    have d1 : decide (s < 257) = true := decide_eq_true (by omega)
    rw [he]
    go_enter Try.func12, Try.ntmps12
    go_wp2_with fail
    go_ret2
    exact ⟨rfl, Below.refl _ _⟩

end Go.Proofs.Ytcieladecjlnpaa
