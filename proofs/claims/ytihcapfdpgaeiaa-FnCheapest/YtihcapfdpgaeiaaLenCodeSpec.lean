/-
  The walks of the document's model of the symbols of lengths.
-/
import Derived.Test.YtihcapfdpgaeiaaRows
import Derived.Test.YtihcapfdpgaeiaaBase
import Derived.Test.YtihcapfdpgaeiaaOutMath
import Derived.Test.YtihcapfdpgaeiaaPowWalks
import Derived.Test.YtihcapfdpgaeiaaInWalks
import Derived.Test.YtihcapfdpgaeiaaStepMath
import Derived.Test.YtihcapfdpgaeiaaStepLib
import Derived.WalkKit
import Derived.ProofKit
import Derived.WalkLawsBesides
import Derived.Lib.SmallJoins
namespace Go.Proofs.Ytihcapfdpgaeiaa
open Go.RowKit Go.Joins OutMath StepMath

theorem bits4 {j : Nat} (h : 4 ≤ j) : ((j : Int) - 4).tdiv 4 = ((bitsN 4 j : Nat) : Int) := by
  rw [Int.tdiv_eq_ediv_of_nonneg (by omega)]
  unfold bitsN
  omega

set_option maxHeartbeats 800000 in
theorem specLenBits (j : Nat) (w : World) (h : j < 28) :
    Calls Try.prog 64 #[.int .i64 (257 + (j : Int))] w fun e w' => e = .returned (.tuple #[.int .i64 ((bitsN 4 j : Nat) : Int), .int .i64 ((fromN 3 4 j : Nat) : Int)]) ∧ w' = w := by
  by_cases h8 : j < 8
  · have e1 := (len_small j (by omega)).1
    have e2 := (len_bits j h).2 h8
    rw [e1, e2]
    have d : decide ((257 : Int) + (j : Int) < 265) = true := decide_eq_true (by omega)
    have d2 : (257 : Int) + (j : Int) < 265 := by omega
    go_enter Try.func64, Try.ntmps64
    go_wp2_with fail
    go_ret2
    exact ⟨ret_ii rfl (by omega), rfl⟩
  · have d : decide ((257 : Int) + (j : Int) < 265) = false := decide_eq_false (by omega)
    have d2 : ¬ (257 : Int) + (j : Int) < 265 := by omega
    have d3 : ((257 : Int) + (j : Int) == 285) = false := by simp; omega
    have hq : ((257 : Int) + (j : Int) - 261).tdiv 4 = ((bitsN 4 j : Nat) : Int) := by
      rw [show (257 : Int) + (j : Int) - 261 = (j : Int) - 4 by omega]
      exact bits4 (by omega)
    have hb := (len_bits j h).1
    go_enter Try.func64, Try.ntmps64
    go_wp2_with fail
    go_loop [5, 6] (fun x i => ∃ q : Nat, 8 ≤ q ∧ q ≤ j ∧ i = .int .i64 (257 + (q : Int)) ∧ x = .int .i64 ((fromN 3 4 q : Nat) : Int)) (fun _ i => 300 - (intOf i).toNat)
    case atStart => exact ⟨8, by omega, by omega, rfl, by rw [len_8]; rfl⟩
    case round =>
      obtain ⟨q, hq1, hq2, rfl, rfl⟩ := hrel
      have hf := from_le (c := 3) (k := 4) (show q ≤ 28 by omega)
      rw [len_28] at hf
      by_cases hlt : q < j
      · have g1 : decide ((257 : Int) + (q : Int) < 257 + (j : Int)) = true := decide_eq_true (by omega)
        have g2 : (257 : Int) + (q : Int) < 257 + (j : Int) := by omega
        have g3 : ((257 : Int) + (q : Int) - 261).tdiv 4 = ((bitsN 4 q : Nat) : Int) := by
          rw [show (257 : Int) + (q : Int) - 261 = (q : Int) - 4 by omega]
          exact bits4 (by omega)
        have g4 := (len_bits q (by omega)).1
        have g5 := p2_le (show bitsN 4 q ≤ 5 by omega)
        have g6 : p2 5 = 32 := by decide +kernel
        have g7 := p2_pos (bitsN 4 q)
        have HN := hid_of (from_next 3 4 q)
        go_wp2_with fail
        refine (pow_any _ _ (by omega)).mono ?_
        rintro e w1 ⟨rfl, rfl⟩
        go_wp2_with fail
        go_round
        case rel => exact ⟨q + 1, by omega, by omega, by go_num, by rw [HN.out]⟩
        case measure => simp [intOf]; omega
      · obtain rfl : q = j := by omega
        go_wp2_with fail
        go_ret2
        exact ⟨rfl, rfl⟩

theorem specLenBits_last (w : World) :
    Calls Try.prog 64 #[.int .i64 285] w fun e w' => e = .returned (.tuple #[.int .i64 0, .int .i64 258]) ∧ w' = w := by
  go_enter Try.func64, Try.ntmps64
  go_wp2_with fail
  go_ret2
  exact ⟨rfl, rfl⟩

/-- What the ring of LengthCode has at hand: symbol, bits, least length. -/
def lenSt (n q : Nat) : Nat × Nat × Nat := if q = 0 then (285, 0, 258) else (257 + findN 3 4 n q, bitsN 4 (findN 3 4 n q), fromN 3 4 (findN 3 4 n q))
theorem lenSt_hit {n q : Nat} (h : fromN 3 4 q ≤ n) : lenSt n (q + 1) = (257 + q, bitsN 4 q, fromN 3 4 q) := by
  unfold lenSt
  rw [if_neg (by omega), find_step, if_pos h]
theorem lenSt_miss {n q : Nat} (h : ¬ fromN 3 4 q ≤ n) (h3 : 3 ≤ n) : lenSt n (q + 1) = lenSt n q := by
  have hq : q ≠ 0 := fun e => by subst e; exact h h3
  unfold lenSt
  rw [if_neg (by omega), if_neg hq, find_step, if_neg h]
theorem lenSt_done {n : Nat} : lenSt n 28 = (257 + findN 3 4 n 28, bitsN 4 (findN 3 4 n 28), fromN 3 4 (findN 3 4 n 28)) := rfl

set_option maxHeartbeats 1600000 in
theorem specLenCode_in (n : Nat) (w : World) (h3 : 3 ≤ n) (h : n < 258) :
    Calls Try.prog 58 #[.int .i64 (n : Int)] w fun e w' => e = .returned (.tuple #[.int .i64 (((lenCode n).1 : Nat) : Int), .int .i64 (((lenCode n).2.1 : Nat) : Int), .int .i64 (((lenCode n).2.2 : Nat) : Int)]) ∧ w' = w := by
  have hc : lenCode n = (257 + findN 3 4 n 28, bitsN 4 (findN 3 4 n 28), n - fromN 3 4 (findN 3 4 n 28)) := by
    unfold lenCode
    rw [if_pos h]
  rw [hc]
  have hfa := len_fact h3 h
  have d1 : decide ((n : Int) < 258) = true := decide_eq_true (by omega)
  go_enter Try.func58, Try.ntmps58
  go_wp2_with fail
  refine (in_yes _ _ _ _ (by omega) (by omega)).mono ?_
  rintro e w1 ⟨rfl, rfl⟩
  go_wp2_with fail
  go_loop [5, 6, 7, 8] (fun x y z i => ∃ q : Nat, q ≤ 28 ∧ i = .int .i64 (257 + (q : Int)) ∧ x = .int .i64 ((lenSt n q).1 : Nat) ∧ y = .int .i64 ((lenSt n q).2.1 : Nat) ∧ z = .int .i64 ((lenSt n q).2.2 : Nat)) (fun _ _ _ i => 300 - (intOf i).toNat)
  case atStart => exact ⟨0, by omega, rfl, rfl, rfl, rfl⟩
  case round =>
    obtain ⟨q, hq, rfl, rfl, rfl, rfl⟩ := hrel
    by_cases hlt : q < 28
    · have g1 : decide ((257 : Int) + (q : Int) < 285) = true := decide_eq_true (by omega)
      have g2 : (257 : Int) + (q : Int) < 285 := by omega
      have hlb := specLenBits q w1 hlt
      go_wp2_with fail
      refine hlb.mono ?_
      rintro e w2 ⟨rfl, rfl⟩
      clear hlb
      by_cases hf : fromN 3 4 q ≤ n
      · have HN := hid_of (lenSt_hit hf)
        have d : decide (((fromN 3 4 q : Nat) : Int) ≤ (n : Int)) = true := decide_eq_true (by omega)
        go_wp2_with fail
        go_round
        case rel => exact ⟨q + 1, by omega, by go_num, by rw [HN.out]; rfl, by rw [HN.out], by rw [HN.out]⟩
        case measure => simp [intOf]; omega
      · have HN := hid_of (lenSt_miss hf h3)
        have d : decide (((fromN 3 4 q : Nat) : Int) ≤ (n : Int)) = false := decide_eq_false (by omega)
        go_wp2_with fail
        go_round
        case rel => exact ⟨q + 1, by omega, by go_num, by rw [HN.out], by rw [HN.out], by rw [HN.out]⟩
        case measure => simp [intOf]; omega
    · obtain rfl : q = 28 := by omega
      rw [lenSt_done]
      have hr1 := hfa.2.1
      have g0 := (len_bits _ hfa.1).1
      have g1 := hfa.1
      obtain ⟨j, hj⟩ : ∃ j, j = findN 3 4 n 28 := ⟨_, rfl⟩
      obtain ⟨z, hz⟩ : ∃ z, z = fromN 3 4 j := ⟨_, rfl⟩
      rw [← hj] at hr1 g0 g1
      rw [← hz] at hr1
      rw [← hj, ← hz]
      have HJ := hid_of hj
      have HZ := hid_of hz
      clear hfa hc hj hz
      go_wp2_with fail
      go_ret3
      refine ⟨ret_iii ?_ ?_ ?_, rfl⟩
      · rw [← HJ.out]
      · rw [← HJ.out]
      · rw [← HJ.out, ← HZ.out]; omega

theorem specLenCode_last (w : World) :
    Calls Try.prog 58 #[.int .i64 258] w fun e w' => e = .returned (.tuple #[.int .i64 285, .int .i64 0, .int .i64 0]) ∧ w' = w := by
  go_enter Try.func58, Try.ntmps58
  go_wp2_with fail
  refine (in_yes _ _ _ _ (by omega) (by omega)).mono ?_
  rintro e w1 ⟨rfl, rfl⟩
  go_wp2_with fail
  go_loop [5, 6, 7, 8] (fun x y z i => x = .int .i64 285 ∧ y = .int .i64 0 ∧ z = .int .i64 258 ∧ i = .int .i64 257) (fun _ _ _ _ => 0)
  case atStart => exact ⟨rfl, rfl, rfl, rfl⟩
  case round =>
    obtain ⟨rfl, rfl, rfl, rfl⟩ := hrel
    go_wp2_with fail
    go_ret3
    exact ⟨rfl, rfl⟩
theorem specLenCode_out (n : Int) (w : World) (h : ¬ (3 ≤ n ∧ n ≤ 258)) :
    Calls Try.prog 58 #[.int .i64 n] w fun e w' => e = .returned (.tuple #[.int .i64 0, .int .i64 0, .int .i64 0]) ∧ w' = w := by
  go_enter Try.func58, Try.ntmps58
  go_wp2_with fail
  refine (in_no _ _ _ _ h).mono ?_
  rintro e w1 ⟨rfl, rfl⟩
  go_wp2_with fail
  go_ret3
  exact ⟨rfl, rfl⟩
theorem specLenCode (n : Int) (w : World) :
    Calls Try.prog 58 #[.int .i64 n] w fun e w' => e = .returned (.tuple #[.int .i64 (LengthCodeOf n).1, .int .i64 (LengthCodeOf n).2.1, .int .i64 (LengthCodeOf n).2.2]) ∧ w' = w := by
  unfold LengthCodeOf
  by_cases h : 3 ≤ n ∧ n ≤ 258
  · rw [if_pos h]
    obtain ⟨m, rfl⟩ := Int.eq_ofNat_of_zero_le (show 0 ≤ n by omega)
    rw [Int.toNat_natCast]
    by_cases h1 : m < 258
    · exact specLenCode_in m w (by omega) h1
    · obtain rfl : m = 258 := by omega
      exact specLenCode_last w
  · rw [if_neg h]
    exact specLenCode_out n w h

end Go.Proofs.Ytihcapfdpgaeiaa
