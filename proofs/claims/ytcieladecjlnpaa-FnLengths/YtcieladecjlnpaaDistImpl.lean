/-
  The walks of the program's functions on distances.
-/
import Derived.Test.YtcieladecjlnpaaRows
import Derived.Test.YtcieladecjlnpaaBase
import Derived.Test.YtcieladecjlnpaaOutMath
import Derived.Test.YtcieladecjlnpaaRetLib
import Derived.Test.YtcieladecjlnpaaStepMath
import Derived.Test.YtcieladecjlnpaaStepLib
import Derived.Test.YtcieladecjlnpaaSymStep
import Derived.Test.YtcieladecjlnpaaSymStepImpl
import Derived.Test.YtcieladecjlnpaaDistAns
import Derived.WalkKit
import Derived.ProofKit
import Derived.WalkLawsBesides
import Derived.Deep.QuietTactic
import Derived.BigQuiet
import Derived.Lib.SmallJoins
namespace Go.Proofs.Ytcieladecjlnpaa
open Go.RowKit Go.Joins OutMath StepMath

theorem isDist_any (x : Int) (w : World) :
    Calls Try.prog 33 #[.int .i64 x] w fun e w' => e = .returned (.bool (decide (1 ≤ x ∧ x ≤ 32768))) ∧ w' = w := by
  by_cases h : 1 ≤ x
  · have d : decide ((1 : Int) ≤ x) = true := decide_eq_true h
    have d2 : decide ((1 : Int) ≤ x ∧ x ≤ 32768) = decide (x ≤ 32768) := by simp [h]
    rw [d2]
    clear d2
    go_enter Try.func33, Try.ntmps33
    go_wp2_with fail
    go_ret
    exact ⟨rfl, rfl⟩
  · have d : decide ((1 : Int) ≤ x) = false := decide_eq_false h
    have d2 : decide ((1 : Int) ≤ x ∧ x ≤ 32768) = false := decide_eq_false (fun q => h q.1)
    rw [d2]
    clear d2
    go_enter Try.func33, Try.ntmps33
    go_wp2_with fail
    go_ret
    exact ⟨rfl, rfl⟩
theorem isDist_yes (x : Int) (w : World) (h : 1 ≤ x ∧ x ≤ 32768) :
    Calls Try.prog 33 #[.int .i64 x] w fun e w' => e = .returned (.bool true) ∧ w' = w := by
  have := isDist_any x w
  rwa [decide_eq_true h] at this
theorem isDist_no (x : Int) (w : World) (h : ¬ (1 ≤ x ∧ x ≤ 32768)) :
    Calls Try.prog 33 #[.int .i64 x] w fun e w' => e = .returned (.bool false) ∧ w' = w := by
  have := isDist_any x w
  rwa [decide_eq_false h] at this
theorem distBits_any (j : Nat) (w : World) (h : j < 30) :
    Calls Try.prog 34 #[.int .i64 (j : Int)] w fun e w' => e = .returned (.int .i64 ((j / 2 - 1 : Nat) : Int)) ∧ w' = w := by
  have hs := fun w => symbolBits_any 1 j w (by omega) h
  go_enter Try.func34, Try.ntmps34
  go_wp2_with fail
  refine (hs _).mono ?_
  rintro e w' ⟨rfl, rfl⟩
  go_wp2_with fail
  go_ret
  exact ⟨rfl, rfl⟩

set_option maxHeartbeats 800000 in
theorem distCode_answer : DistCodeAnswer := by
  intro n w _
  by_cases h : 1 ≤ n ∧ n ≤ 32768
  · obtain ⟨h3, h258⟩ := h
    obtain ⟨m, rfl⟩ : ∃ m : Nat, n = (m : Int) + 1 := ⟨(n - 1).toNat, by omega⟩
    unfold DistCodeOf
    rw [if_pos ⟨h3, h258⟩, show ((m : Int) + 1).toNat = m + 1 by omega]
    have hl := dist_sym (n := m) (by omega)
    have hs := fun w => symbolOf_any 1 m w (by omega) (by omega) hl.2
    rw [hl.1]
    have hB := hl.2
    clear hl
    obtain ⟨c, hc⟩ : ∃ c, c = Lib.bitLen m - 2 := ⟨_, rfl⟩
    simp only [show 1 + 1 = 2 from rfl, ← hc] at hs
    rw [← hc]
    have hq2 : (((c * 2 ^ 1 + m / 2 ^ c : Nat) : Int) = ((c * 2 + m / 2 ^ c : Nat) : Int)) := rfl
    rw [hq2] at hs
    clear hc hB hq2
    generalize c * 2 + m / 2 ^ c = q at *
    generalize m % 2 ^ c = r at *
    go_enter Try.func13, Try.ntmps13
    go_wp2_with fail
    refine (isDist_yes _ _ (by omega)).mono ?_
    rintro e w' ⟨rfl, rfl⟩
    go_wp2_with fail
    refine (hs _).mono ?_
    rintro e w1 ⟨rfl, hB1⟩
    have HB := hid_of hB1
    clear hB1 hs
    go_wp2_with fail
    go_ret3
    exact ⟨rfl, HB.out⟩
  · unfold DistCodeOf
    rw [if_neg h]
    go_enter Try.func13, Try.ntmps13
    go_wp2_with fail
    refine (isDist_no _ _ h).mono ?_
    rintro e w' ⟨rfl, rfl⟩
    go_wp2_with fail
    go_ret3
    exact ⟨rfl, Below.refl _ _⟩

set_option maxHeartbeats 1600000 in
theorem distOf_answer : DistOfAnswer := by
  intro s x w _ _
  by_cases h1 : 0 ≤ s
  · by_cases h2 : s ≤ 29
    · by_cases h3 : 0 ≤ x
      · obtain ⟨j, rfl⟩ := Int.eq_ofNat_of_zero_le h1
        have d2 : decide ((29 : Int) < (j : Int)) = false := decide_eq_false (by omega)
        have d2' : decide (29 < j) = false := decide_eq_false (by omega)
        have d3 : decide (x < 0) = false := decide_eq_false (by omega)
        have hj : j < 30 := by omega
        obtain ⟨hl, hc5⟩ := dist_least j hj
        have hlb := fun w => distBits_any j w hj
        have hnum := fun w => numberOf_any 1 j w (.inl rfl) (by omega)
        simp only [Nat.pow_one] at hnum
        have hsz : (j - (j / 2 - 1) * 2) * 2 ^ (j / 2 - 1) ≤ 100000 := (show ∀ j, j < 30 → (j - (j / 2 - 1) * 2) * 2 ^ (j / 2 - 1) ≤ 100000 by decide +kernel) j hj
        unfold DistOfR
        rw [show ((j : Int)).toNat = j by omega, hl]
        generalize (j - (j / 2 - 1) * 2) * 2 ^ (j / 2 - 1) = z at *
        generalize j / 2 - 1 = c at *
        obtain ⟨q, hq1, hq2, hq3⟩ := pow_named c (by omega)
        show Calls Try.prog 14 _ _ fun e w' => e = .returned (.tuple #[.int .i64 (if (0 ≤ (j : Int) ∧ (j : Int) ≤ 29) ∧ 0 ≤ x ∧ x < 2 ^ c then (((1 + z : Nat) : Int) + x, true) else (0, false)).1, .bool (if (0 ≤ (j : Int) ∧ (j : Int) ≤ 29) ∧ 0 ≤ x ∧ x < 2 ^ c then (((1 + z : Nat) : Int) + x, true) else (0, false)).2]) ∧ _
        rw [← hq1]
        clear hq1 hl
        by_cases h5 : x < (q : Int)
        · have d5 : decide ((q : Int) ≤ x) = false := decide_eq_false (by omega)
          rw [if_pos ⟨⟨h1, h2⟩, h3, h5⟩]
          go_enter Try.func14, Try.ntmps14
          go_wp2_with fail
          refine (hlb _).mono ?_
          rintro e w' ⟨rfl, rfl⟩
          go_wp2_with fail
          refine (hnum _).mono ?_
          rintro e w1 ⟨rfl, rfl⟩
          clear hlb hnum
          go_wp2_with fail
          go_ret2
          exact ⟨ret_ib (by omega) rfl, Below.refl _ _⟩
        · have d5 : decide ((q : Int) ≤ x) = true := decide_eq_true (by omega)
          rw [if_neg (fun q => h5 q.2.2)]
          go_enter Try.func14, Try.ntmps14
          go_wp2_with fail
          refine (hlb _).mono ?_
          rintro e w' ⟨rfl, rfl⟩
          go_wp2_with fail
          go_ret2
          exact ⟨rfl, Below.refl _ _⟩
      · have he : DistOfR s x = (0, false) := by
          unfold DistOfR
          rw [if_neg (fun q => h3 q.2.1)]
        have d1 : decide (s < 0) = false := decide_eq_false (by omega)
        have d2 : decide ((29 : Int) < s) = false := decide_eq_false (by omega)
        have d3 : decide (x < 0) = true := decide_eq_true (by omega)
        rw [he]
        go_enter Try.func14, Try.ntmps14
        go_wp2_with fail
        go_ret2
        exact ⟨rfl, Below.refl _ _⟩
    · have he : DistOfR s x = (0, false) := by
        unfold DistOfR
        rw [if_neg (fun q => h2 q.1.2)]
      have d1 : decide (s < 0) = false := decide_eq_false (by omega)
      have d2 : decide ((29 : Int) < s) = true := decide_eq_true (by omega)
      rw [he]
      go_enter Try.func14, Try.ntmps14
      go_wp2_with fail
      go_ret2
      exact ⟨rfl, Below.refl _ _⟩
  · have he : DistOfR s x = (0, false) := by
      unfold DistOfR
      rw [if_neg (fun q => h1 q.1.1)]
    have d1 : decide (s < 0) = true := decide_eq_true (by omega)
    rw [he]
    go_enter Try.func14, Try.ntmps14
    go_wp2_with fail
    go_ret2
    exact ⟨rfl, Below.refl _ _⟩

end Go.Proofs.Ytcieladecjlnpaa
