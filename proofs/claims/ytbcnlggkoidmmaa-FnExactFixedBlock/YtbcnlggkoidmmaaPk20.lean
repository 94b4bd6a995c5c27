/-
  The walks of the document's model of the symbols of distances.
-/
import Derived.Test.YtbcnlggkoidmmaaRows
import Derived.Test.YtbcnlggkoidmmaaPk01
import Derived.Test.YtbcnlggkoidmmaaPk10
import Derived.Test.YtbcnlggkoidmmaaPk11
import Derived.Test.YtbcnlggkoidmmaaPk07
import Derived.Test.YtbcnlggkoidmmaaPk19
import Derived.WalkKit
import Derived.ProofKit
import Derived.WalkLawsBesides
import Derived.Lib.SmallJoins
namespace Go.Proofs.Ytbcnlggkoidmmaa
open Go.RowKit Go.Joins OutMath StepMath

theorem bits2 {j : Nat} (h : 2 ≤ j) : ((j : Int) - 2).tdiv 2 = ((bitsN 2 j : Nat) : Int) := by
  rw [Int.tdiv_eq_ediv_of_nonneg (by omega)]
  unfold bitsN
  omega

set_option maxHeartbeats 800000 in
theorem specDistBits (j : Nat) (w : World) (h : j < 30) :
    Calls Try.prog 48 #[.int .i64 (j : Int)] w fun e w' => e = .returned (.tuple #[.int .i64 ((bitsN 2 j : Nat) : Int), .int .i64 ((fromN 1 2 j : Nat) : Int)]) ∧ w' = w := by
  by_cases h4 : j < 4
  · have e1 := (dist_small j (by omega)).1
    have e2 := (dist_bits j h).2 h4
    rw [e1, e2]
    have d : decide ((j : Int) < 4) = true := decide_eq_true (by omega)
    go_enter Try.func48, Try.ntmps48
    go_wp2_with fail
    go_ret2
    exact ⟨ret_ii rfl (by omega), rfl⟩
  · have d : decide ((j : Int) < 4) = false := decide_eq_false (by omega)
    have hq := bits2 (show 2 ≤ j by omega)
    have hb := (dist_bits j h).1
    go_enter Try.func48, Try.ntmps48
    go_wp2_with fail
    go_loop [4, 5] (fun x i => ∃ q : Nat, 4 ≤ q ∧ q ≤ j ∧ i = .int .i64 (q : Int) ∧ x = .int .i64 ((fromN 1 2 q : Nat) : Int)) (fun _ i => 300 - (intOf i).toNat)
    case atStart => exact ⟨4, by omega, by omega, rfl, by rw [dist_4]; rfl⟩
    case round =>
      obtain ⟨q, hq1, hq2, rfl, rfl⟩ := hrel
      have hf := from_le (c := 1) (k := 2) (show q ≤ 30 by omega)
      rw [dist_30] at hf
      by_cases hlt : q < j
      · have g3 := bits2 (show 2 ≤ q by omega)
        have g4 := (dist_bits q (by omega)).1
        have g5 := p2_le (show bitsN 2 q ≤ 13 by omega)
        have g6 : p2 13 = 8192 := by decide +kernel
        have g7 := p2_pos (bitsN 2 q)
        have HN := hid_of (from_next 1 2 q)
        go_wp2_with fail
        refine (pow_any _ _ (by omega)).mono ?_
        rintro e w1 ⟨rfl, rfl⟩
        go_wp2_with fail
        go_round
        case rel => exact ⟨q + 1, by omega, by omega, by go_num, by rw [HN.out]⟩
        case measure => simp [intOf]; omega
      · obtain rfl : q = j := by omega
        go_wp2_with fail
        go_ret2
        exact ⟨rfl, rfl⟩

/-- What the ring of DistCode has at hand: symbol, bits, least distance. -/
def distSt (n q : Nat) : Nat × Nat × Nat := (findN 1 2 n q, bitsN 2 (findN 1 2 n q), fromN 1 2 (findN 1 2 n q))
theorem distSt_hit {n q : Nat} (h : fromN 1 2 q ≤ n) : distSt n (q + 1) = (q, bitsN 2 q, fromN 1 2 q) := by
  unfold distSt
  rw [find_step, if_pos h]
theorem distSt_miss {n q : Nat} (h : ¬ fromN 1 2 q ≤ n) : distSt n (q + 1) = distSt n q := by
  unfold distSt
  rw [find_step, if_neg h]
theorem distSt_zero (n : Nat) : distSt n 0 = (0, 0, 1) := by
  show (0, bitsN 2 0, 1) = _
  rw [show bitsN 2 0 = 0 by decide]
theorem distSt_done {n : Nat} : distSt n 30 = (findN 1 2 n 30, bitsN 2 (findN 1 2 n 30), fromN 1 2 (findN 1 2 n 30)) := rfl

set_option maxHeartbeats 1600000 in
theorem specDistCode_in (n : Nat) (w : World) (h1 : 1 ≤ n) (h : n ≤ 32768) :
    Calls Try.prog 24 #[.int .i64 (n : Int)] w fun e w' => e = .returned (.tuple #[.int .i64 (((distCode n).1 : Nat) : Int), .int .i64 (((distCode n).2.1 : Nat) : Int), .int .i64 (((distCode n).2.2 : Nat) : Int)]) ∧ w' = w := by
  have hc : distCode n = (findN 1 2 n 30, bitsN 2 (findN 1 2 n 30), n - fromN 1 2 (findN 1 2 n 30)) := rfl
  rw [hc]
  have hfa := dist_fact h1 h
  go_enter Try.func24, Try.ntmps24
  go_wp2_with fail
  refine (in_yes _ _ _ _ (by omega) (by omega)).mono ?_
  rintro e w1 ⟨rfl, rfl⟩
  go_wp2_with fail
  go_loop [5, 6, 7, 8] (fun x y z i => ∃ q : Nat, q ≤ 30 ∧ i = .int .i64 (q : Int) ∧ x = .int .i64 ((distSt n q).1 : Nat) ∧ y = .int .i64 ((distSt n q).2.1 : Nat) ∧ z = .int .i64 ((distSt n q).2.2 : Nat)) (fun _ _ _ i => 300 - (intOf i).toNat)
  case atStart => exact ⟨0, by omega, rfl, by rw [distSt_zero]; rfl, by rw [distSt_zero]; rfl, by rw [distSt_zero]; rfl⟩
  case round =>
    obtain ⟨q, hq, rfl, rfl, rfl, rfl⟩ := hrel
    by_cases hlt : q < 30
    · have g1 : decide ((q : Int) < 30) = true := decide_eq_true (by omega)
      have hlb := specDistBits q w1 hlt
      go_wp2_with fail
      refine hlb.mono ?_
      rintro e w2 ⟨rfl, rfl⟩
      clear hlb
      by_cases hf : fromN 1 2 q ≤ n
      · have HN := hid_of (distSt_hit hf)
        have d : decide (((fromN 1 2 q : Nat) : Int) ≤ (n : Int)) = true := decide_eq_true (by omega)
        go_wp2_with fail
        go_round
        case rel => exact ⟨q + 1, by omega, by go_num, by rw [HN.out], by rw [HN.out], by rw [HN.out]⟩
        case measure => simp [intOf]; omega
      · have HN := hid_of (distSt_miss hf)
        have d : decide (((fromN 1 2 q : Nat) : Int) ≤ (n : Int)) = false := decide_eq_false (by omega)
        go_wp2_with fail
        go_round
        case rel => exact ⟨q + 1, by omega, by go_num, by rw [HN.out], by rw [HN.out], by rw [HN.out]⟩
        case measure => simp [intOf]; omega
    · obtain rfl : q = 30 := by omega
      rw [distSt_done]
      have hr1 := hfa.2.1
      have g0 := (dist_bits _ hfa.1).1
      have g1 := hfa.1
      obtain ⟨j, hj⟩ : ∃ j, j = findN 1 2 n 30 := ⟨_, rfl⟩
      obtain ⟨z, hz⟩ : ∃ z, z = fromN 1 2 j := ⟨_, rfl⟩
      rw [← hj] at hr1 g0 g1
      rw [← hz] at hr1
      rw [← hj, ← hz]
      have HJ := hid_of hj
      have HZ := hid_of hz
      clear hfa hc hj hz
      go_wp2_with fail
      go_ret3
      refine ⟨ret_iii ?_ ?_ ?_, rfl⟩
      · rw [← HJ.out]
      · rw [← HJ.out]
      · rw [← HJ.out, ← HZ.out]; omega

theorem specDistCode_out (n : Int) (w : World) (h : ¬ (1 ≤ n ∧ n ≤ 32768)) :
    Calls Try.prog 24 #[.int .i64 n] w fun e w' => e = .returned (.tuple #[.int .i64 0, .int .i64 0, .int .i64 0]) ∧ w' = w := by
  go_enter Try.func24, Try.ntmps24
  go_wp2_with fail
  refine (in_no _ _ _ _ h).mono ?_
  rintro e w1 ⟨rfl, rfl⟩
  go_wp2_with fail
  go_ret3
  exact ⟨rfl, rfl⟩
theorem specDistCode (n : Int) (w : World) :
    Calls Try.prog 24 #[.int .i64 n] w fun e w' => e = .returned (.tuple #[.int .i64 (DistCodeOf n).1, .int .i64 (DistCodeOf n).2.1, .int .i64 (DistCodeOf n).2.2]) ∧ w' = w := by
  unfold DistCodeOf
  by_cases h : 1 ≤ n ∧ n ≤ 32768
  · rw [if_pos h]
    obtain ⟨m, rfl⟩ := Int.eq_ofNat_of_zero_le (show 0 ≤ n by omega)
    rw [Int.toNat_natCast]
    exact specDistCode_in m w (by omega) (by omega)
  · rw [if_neg h]
    exact specDistCode_out n w h

end Go.Proofs.Ytbcnlggkoidmmaa
