/-
  What the walks over lengths and distances share. Nothing here speaks of the program.
  The walks of the document's model of the symbols of lengths.
  The walks of the document's model of the symbols of distances.
  The walk of the document's model of TokenOk.
-/
import Derived.Test.YtbcnlggkoidmmaaPk07
import Derived.Test.YtbcnlggkoidmmaaPk04
import Derived.Test.YtbcnlggkoidmmaaRows
import Derived.Test.YtbcnlggkoidmmaaPk01
import Derived.WalkKit
import Derived.ProofKit
import Derived.WalkLawsBesides
import Derived.Lib.SmallJoins
import Derived.Below
namespace Go.Proofs.Ytbcnlggkoidmmaa
open Go.RowKit OutMath StepMath

theorem p2_pow (m : Nat) : p2 m = ((2 ^ m : Nat) : Int) := (pow_cast m).symm
theorem from_next (c k j : Nat) : ((fromN c k (j + 1) : Nat) : Int) = ((fromN c k j : Nat) : Int) + p2 (bitsN k j) := by
  rw [p2_pow, ← Int.natCast_add]
  rfl
theorem ret_ii {k : IntKind} {a b c d : Int} (h : a = b) (h' : c = d) : Ending.returned (.tuple #[.int k a, .int k c]) = .returned (.tuple #[.int k b, .int k d]) := by rw [h, h']
theorem ret_iii {k : IntKind} {a b c d x y : Int} (h : a = b) (h' : c = d) (h2 : x = y) : Ending.returned (.tuple #[.int k a, .int k c, .int k x]) = .returned (.tuple #[.int k b, .int k d, .int k y]) := by rw [h, h', h2]
theorem ret_ib {k : IntKind} {a b : Int} {c d : Bool} (h : a = b) (h' : c = d) : Ending.returned (.tuple #[.int k a, .bool c]) = .returned (.tuple #[.int k b, .bool d]) := by rw [h, h']

end Go.Proofs.Ytbcnlggkoidmmaa

namespace Go.Proofs.Ytbcnlggkoidmmaa
open Go.RowKit Go.Joins OutMath StepMath

theorem bits4 {j : Nat} (h : 4 ≤ j) : ((j : Int) - 4).tdiv 4 = ((bitsN 4 j : Nat) : Int) := by
  rw [Int.tdiv_eq_ediv_of_nonneg (by omega)]
  unfold bitsN
  omega

set_option maxHeartbeats 800000 in
theorem specLenBits (j : Nat) (w : World) (h : j < 28) :
    Calls Try.prog 47 #[.int .i64 (257 + (j : Int))] w fun e w' => e = .returned (.tuple #[.int .i64 ((bitsN 4 j : Nat) : Int), .int .i64 ((fromN 3 4 j : Nat) : Int)]) ∧ w' = w := by
  by_cases h8 : j < 8
  · have e1 := (len_small j (by omega)).1
    have e2 := (len_bits j h).2 h8
    rw [e1, e2]
    have d : decide ((257 : Int) + (j : Int) < 265) = true := decide_eq_true (by omega)
    have d2 : (257 : Int) + (j : Int) < 265 := by omega
    go_enter Try.func47, Try.ntmps47
    go_wp2_with fail
    go_ret2
    exact ⟨ret_ii rfl (by omega), rfl⟩
  · have d : decide ((257 : Int) + (j : Int) < 265) = false := decide_eq_false (by omega)
    have d2 : ¬ (257 : Int) + (j : Int) < 265 := by omega
    have d3 : ((257 : Int) + (j : Int) == 285) = false := by simp; omega
    have hq : ((257 : Int) + (j : Int) - 261).tdiv 4 = ((bitsN 4 j : Nat) : Int) := by
      rw [show (257 : Int) + (j : Int) - 261 = (j : Int) - 4 by omega]
      exact bits4 (by omega)
    have hb := (len_bits j h).1
    go_enter Try.func47, Try.ntmps47
    go_wp2_with fail
    go_loop [5, 6] (fun x i => ∃ q : Nat, 8 ≤ q ∧ q ≤ j ∧ i = .int .i64 (257 + (q : Int)) ∧ x = .int .i64 ((fromN 3 4 q : Nat) : Int)) (fun _ i => 300 - (intOf i).toNat)
    case atStart => exact ⟨8, by omega, by omega, rfl, by rw [len_8]; rfl⟩
    case round =>
      obtain ⟨q, hq1, hq2, rfl, rfl⟩ := hrel
      have hf := from_le (c := 3) (k := 4) (show q ≤ 28 by omega)
      rw [len_28] at hf
      by_cases hlt : q < j
      · have g1 : decide ((257 : Int) + (q : Int) < 257 + (j : Int)) = true := decide_eq_true (by omega)
        have g2 : (257 : Int) + (q : Int) < 257 + (j : Int) := by omega
        have g3 : ((257 : Int) + (q : Int) - 261).tdiv 4 = ((bitsN 4 q : Nat) : Int) := by
          rw [show (257 : Int) + (q : Int) - 261 = (q : Int) - 4 by omega]
          exact bits4 (by omega)
        have g4 := (len_bits q (by omega)).1
        have g5 := p2_le (show bitsN 4 q ≤ 5 by omega)
        have g6 : p2 5 = 32 := by decide +kernel
        have g7 := p2_pos (bitsN 4 q)
        have HN := hid_of (from_next 3 4 q)
        go_wp2_with fail
        refine (pow_any _ _ (by omega)).mono ?_
        rintro e w1 ⟨rfl, rfl⟩
        go_wp2_with fail
        go_round
        case rel => exact ⟨q + 1, by omega, by omega, by go_num, by rw [HN.out]⟩
        case measure => simp [intOf]; omega
      · obtain rfl : q = j := by omega
        go_wp2_with fail
        go_ret2
        exact ⟨rfl, rfl⟩

theorem specLenBits_last (w : World) :
    Calls Try.prog 47 #[.int .i64 285] w fun e w' => e = .returned (.tuple #[.int .i64 0, .int .i64 258]) ∧ w' = w := by
  go_enter Try.func47, Try.ntmps47
  go_wp2_with fail
  go_ret2
  exact ⟨rfl, rfl⟩

/-- What the ring of LengthCode has at hand: symbol, bits, least length. -/
def lenSt (n q : Nat) : Nat × Nat × Nat := if q = 0 then (285, 0, 258) else (257 + findN 3 4 n q, bitsN 4 (findN 3 4 n q), fromN 3 4 (findN 3 4 n q))
theorem lenSt_hit {n q : Nat} (h : fromN 3 4 q ≤ n) : lenSt n (q + 1) = (257 + q, bitsN 4 q, fromN 3 4 q) := by
  unfold lenSt
  rw [if_neg (by omega), find_step, if_pos h]
theorem lenSt_miss {n q : Nat} (h : ¬ fromN 3 4 q ≤ n) (h3 : 3 ≤ n) : lenSt n (q + 1) = lenSt n q := by
  have hq : q ≠ 0 := fun e => by subst e; exact h h3
  unfold lenSt
  rw [if_neg (by omega), if_neg hq, find_step, if_neg h]
theorem lenSt_done {n : Nat} : lenSt n 28 = (257 + findN 3 4 n 28, bitsN 4 (findN 3 4 n 28), fromN 3 4 (findN 3 4 n 28)) := rfl

set_option maxHeartbeats 1600000 in
theorem specLenCode_in (n : Nat) (w : World) (h3 : 3 ≤ n) (h : n < 258) :
    Calls Try.prog 23 #[.int .i64 (n : Int)] w fun e w' => e = .returned (.tuple #[.int .i64 (((lenCode n).1 : Nat) : Int), .int .i64 (((lenCode n).2.1 : Nat) : Int), .int .i64 (((lenCode n).2.2 : Nat) : Int)]) ∧ w' = w := by
  have hc : lenCode n = (257 + findN 3 4 n 28, bitsN 4 (findN 3 4 n 28), n - fromN 3 4 (findN 3 4 n 28)) := by
    unfold lenCode
    rw [if_pos h]
  rw [hc]
  have hfa := len_fact h3 h
  have d1 : decide ((n : Int) < 258) = true := decide_eq_true (by omega)
  go_enter Try.func23, Try.ntmps23
  go_wp2_with fail
  refine (in_yes _ _ _ _ (by omega) (by omega)).mono ?_
  rintro e w1 ⟨rfl, rfl⟩
  go_wp2_with fail
  go_loop [5, 6, 7, 8] (fun x y z i => ∃ q : Nat, q ≤ 28 ∧ i = .int .i64 (257 + (q : Int)) ∧ x = .int .i64 ((lenSt n q).1 : Nat) ∧ y = .int .i64 ((lenSt n q).2.1 : Nat) ∧ z = .int .i64 ((lenSt n q).2.2 : Nat)) (fun _ _ _ i => 300 - (intOf i).toNat)
  case atStart => exact ⟨0, by omega, rfl, rfl, rfl, rfl⟩
  case round =>
    obtain ⟨q, hq, rfl, rfl, rfl, rfl⟩ := hrel
    by_cases hlt : q < 28
    · have g1 : decide ((257 : Int) + (q : Int) < 285) = true := decide_eq_true (by omega)
      have g2 : (257 : Int) + (q : Int) < 285 := by omega
      have hlb := specLenBits q w1 hlt
      go_wp2_with fail
      refine hlb.mono ?_
      rintro e w2 ⟨rfl, rfl⟩
      clear hlb
      by_cases hf : fromN 3 4 q ≤ n
      · have HN := hid_of (lenSt_hit hf)
        have d : decide (((fromN 3 4 q : Nat) : Int) ≤ (n : Int)) = true := decide_eq_true (by omega)
        go_wp2_with fail
        go_round
        case rel => exact ⟨q + 1, by omega, by go_num, by rw [HN.out]; rfl, by rw [HN.out], by rw [HN.out]⟩
        case measure => simp [intOf]; omega
      · have HN := hid_of (lenSt_miss hf h3)
        have d : decide (((fromN 3 4 q : Nat) : Int) ≤ (n : Int)) = false := decide_eq_false (by omega)
        go_wp2_with fail
        go_round
        case rel => exact ⟨q + 1, by omega, by go_num, by rw [HN.out], by rw [HN.out], by rw [HN.out]⟩
        case measure => simp [intOf]; omega
    · obtain rfl : q = 28 := by omega
      rw [lenSt_done]
      have hr1 := hfa.2.1
      have g0 := (len_bits _ hfa.1).1
      have g1 := hfa.1
      obtain ⟨j, hj⟩ : ∃ j, j = findN 3 4 n 28 := ⟨_, rfl⟩
      obtain ⟨z, hz⟩ : ∃ z, z = fromN 3 4 j := ⟨_, rfl⟩
      rw [← hj] at hr1 g0 g1
      rw [← hz] at hr1
      rw [← hj, ← hz]
      have HJ := hid_of hj
      have HZ := hid_of hz
      clear hfa hc hj hz
      go_wp2_with fail
      go_ret3
      refine ⟨ret_iii ?_ ?_ ?_, rfl⟩
      · rw [← HJ.out]
      · rw [← HJ.out]
      · rw [← HJ.out, ← HZ.out]; omega

theorem specLenCode_last (w : World) :
    Calls Try.prog 23 #[.int .i64 258] w fun e w' => e = .returned (.tuple #[.int .i64 285, .int .i64 0, .int .i64 0]) ∧ w' = w := by
  go_enter Try.func23, Try.ntmps23
  go_wp2_with fail
  refine (in_yes _ _ _ _ (by omega) (by omega)).mono ?_
  rintro e w1 ⟨rfl, rfl⟩
  go_wp2_with fail
  go_loop [5, 6, 7, 8] (fun x y z i => x = .int .i64 285 ∧ y = .int .i64 0 ∧ z = .int .i64 258 ∧ i = .int .i64 257) (fun _ _ _ _ => 0)
  case atStart => exact ⟨rfl, rfl, rfl, rfl⟩
  case round =>
    obtain ⟨rfl, rfl, rfl, rfl⟩ := hrel
    go_wp2_with fail
    go_ret3
    exact ⟨rfl, rfl⟩
theorem specLenCode_out (n : Int) (w : World) (h : ¬ (3 ≤ n ∧ n ≤ 258)) :
    Calls Try.prog 23 #[.int .i64 n] w fun e w' => e = .returned (.tuple #[.int .i64 0, .int .i64 0, .int .i64 0]) ∧ w' = w := by
  go_enter Try.func23, Try.ntmps23
  go_wp2_with fail
  refine (in_no _ _ _ _ h).mono ?_
  rintro e w1 ⟨rfl, rfl⟩
  go_wp2_with fail
  go_ret3
  exact ⟨rfl, rfl⟩
theorem specLenCode (n : Int) (w : World) :
    Calls Try.prog 23 #[.int .i64 n] w fun e w' => e = .returned (.tuple #[.int .i64 (LengthCodeOf n).1, .int .i64 (LengthCodeOf n).2.1, .int .i64 (LengthCodeOf n).2.2]) ∧ w' = w := by
  unfold LengthCodeOf
  by_cases h : 3 ≤ n ∧ n ≤ 258
  · rw [if_pos h]
    obtain ⟨m, rfl⟩ := Int.eq_ofNat_of_zero_le (show 0 ≤ n by omega)
    rw [Int.toNat_natCast]
    by_cases h1 : m < 258
    · exact specLenCode_in m w (by omega) h1
    · obtain rfl : m = 258 := by omega
      exact specLenCode_last w
  · rw [if_neg h]
    exact specLenCode_out n w h

end Go.Proofs.Ytbcnlggkoidmmaa

namespace Go.Proofs.Ytbcnlggkoidmmaa
open Go.RowKit Go.Joins OutMath StepMath

theorem bits2 {j : Nat} (h : 2 ≤ j) : ((j : Int) - 2).tdiv 2 = ((bitsN 2 j : Nat) : Int) := by
  rw [Int.tdiv_eq_ediv_of_nonneg (by omega)]
  unfold bitsN
  omega

set_option maxHeartbeats 800000 in
theorem specDistBits (j : Nat) (w : World) (h : j < 30) :
    Calls Try.prog 48 #[.int .i64 (j : Int)] w fun e w' => e = .returned (.tuple #[.int .i64 ((bitsN 2 j : Nat) : Int), .int .i64 ((fromN 1 2 j : Nat) : Int)]) ∧ w' = w := by
  by_cases h4 : j < 4
  · have e1 := (dist_small j (by omega)).1
    have e2 := (dist_bits j h).2 h4
    rw [e1, e2]
    have d : decide ((j : Int) < 4) = true := decide_eq_true (by omega)
    go_enter Try.func48, Try.ntmps48
    go_wp2_with fail
    go_ret2
    exact ⟨ret_ii rfl (by omega), rfl⟩
  · have d : decide ((j : Int) < 4) = false := decide_eq_false (by omega)
    have hq := bits2 (show 2 ≤ j by omega)
    have hb := (dist_bits j h).1
    go_enter Try.func48, Try.ntmps48
    go_wp2_with fail
    go_loop [4, 5] (fun x i => ∃ q : Nat, 4 ≤ q ∧ q ≤ j ∧ i = .int .i64 (q : Int) ∧ x = .int .i64 ((fromN 1 2 q : Nat) : Int)) (fun _ i => 300 - (intOf i).toNat)
    case atStart => exact ⟨4, by omega, by omega, rfl, by rw [dist_4]; rfl⟩
    case round =>
      obtain ⟨q, hq1, hq2, rfl, rfl⟩ := hrel
      have hf := from_le (c := 1) (k := 2) (show q ≤ 30 by omega)
      rw [dist_30] at hf
      by_cases hlt : q < j
      · have g3 := bits2 (show 2 ≤ q by omega)
        have g4 := (dist_bits q (by omega)).1
        have g5 := p2_le (show bitsN 2 q ≤ 13 by omega)
        have g6 : p2 13 = 8192 := by decide +kernel
        have g7 := p2_pos (bitsN 2 q)
        have HN := hid_of (from_next 1 2 q)
        go_wp2_with fail
        refine (pow_any _ _ (by omega)).mono ?_
        rintro e w1 ⟨rfl, rfl⟩
        go_wp2_with fail
        go_round
        case rel => exact ⟨q + 1, by omega, by omega, by go_num, by rw [HN.out]⟩
        case measure => simp [intOf]; omega
      · obtain rfl : q = j := by omega
        go_wp2_with fail
        go_ret2
        exact ⟨rfl, rfl⟩

/-- What the ring of DistCode has at hand: symbol, bits, least distance. -/
def distSt (n q : Nat) : Nat × Nat × Nat := (findN 1 2 n q, bitsN 2 (findN 1 2 n q), fromN 1 2 (findN 1 2 n q))
theorem distSt_hit {n q : Nat} (h : fromN 1 2 q ≤ n) : distSt n (q + 1) = (q, bitsN 2 q, fromN 1 2 q) := by
  unfold distSt
  rw [find_step, if_pos h]
theorem distSt_miss {n q : Nat} (h : ¬ fromN 1 2 q ≤ n) : distSt n (q + 1) = distSt n q := by
  unfold distSt
  rw [find_step, if_neg h]
theorem distSt_zero (n : Nat) : distSt n 0 = (0, 0, 1) := by
  show (0, bitsN 2 0, 1) = _
  rw [show bitsN 2 0 = 0 by decide]
theorem distSt_done {n : Nat} : distSt n 30 = (findN 1 2 n 30, bitsN 2 (findN 1 2 n 30), fromN 1 2 (findN 1 2 n 30)) := rfl

set_option maxHeartbeats 1600000 in
theorem specDistCode_in (n : Nat) (w : World) (h1 : 1 ≤ n) (h : n ≤ 32768) :
    Calls Try.prog 24 #[.int .i64 (n : Int)] w fun e w' => e = .returned (.tuple #[.int .i64 (((distCode n).1 : Nat) : Int), .int .i64 (((distCode n).2.1 : Nat) : Int), .int .i64 (((distCode n).2.2 : Nat) : Int)]) ∧ w' = w := by
  have hc : distCode n = (findN 1 2 n 30, bitsN 2 (findN 1 2 n 30), n - fromN 1 2 (findN 1 2 n 30)) := rfl
  rw [hc]
  have hfa := dist_fact h1 h
  go_enter Try.func24, Try.ntmps24
  go_wp2_with fail
  refine (in_yes _ _ _ _ (by omega) (by omega)).mono ?_
  rintro e w1 ⟨rfl, rfl⟩
  go_wp2_with fail
  go_loop [5, 6, 7, 8] (fun x y z i => ∃ q : Nat, q ≤ 30 ∧ i = .int .i64 (q : Int) ∧ x = .int .i64 ((distSt n q).1 : Nat) ∧ y = .int .i64 ((distSt n q).2.1 : Nat) ∧ z = .int .i64 ((distSt n q).2.2 : Nat)) (fun _ _ _ i => 300 - (intOf i).toNat)
  case atStart => exact ⟨0, by omega, rfl, by rw [distSt_zero]; rfl, by rw [distSt_zero]; rfl, by rw [distSt_zero]; rfl⟩
  case round =>
    obtain ⟨q, hq, rfl, rfl, rfl, rfl⟩ := hrel
    by_cases hlt : q < 30
    · have g1 : decide ((q : Int) < 30) = true := decide_eq_true (by omega)
      have hlb := specDistBits q w1 hlt
      go_wp2_with fail
      refine hlb.mono ?_
      rintro e w2 ⟨rfl, rfl⟩
      clear hlb
      by_cases hf : fromN 1 2 q ≤ n
      · have HN := hid_of (distSt_hit hf)
        have d : decide (((fromN 1 2 q : Nat) : Int) ≤ (n : Int)) = true := decide_eq_true (by omega)
        go_wp2_with fail
        go_round
        case rel => exact ⟨q + 1, by omega, by go_num, by rw [HN.out], by rw [HN.out], by rw [HN.out]⟩
        case measure => simp [intOf]; omega
      · have HN := hid_of (distSt_miss hf)
        have d : decide (((fromN 1 2 q : Nat) : Int) ≤ (n : Int)) = false := decide_eq_false (by omega)
        go_wp2_with fail
        go_round
        case rel => exact ⟨q + 1, by omega, by go_num, by rw [HN.out], by rw [HN.out], by rw [HN.out]⟩
        case measure => simp [intOf]; omega
    · obtain rfl : q = 30 := by omega
      rw [distSt_done]
      have hr1 := hfa.2.1
      have g0 := (dist_bits _ hfa.1).1
      have g1 := hfa.1
      obtain ⟨j, hj⟩ : ∃ j, j = findN 1 2 n 30 := ⟨_, rfl⟩
      obtain ⟨z, hz⟩ : ∃ z, z = fromN 1 2 j := ⟨_, rfl⟩
      rw [← hj] at hr1 g0 g1
      rw [← hz] at hr1
      rw [← hj, ← hz]
      have HJ := hid_of hj
      have HZ := hid_of hz
      clear hfa hc hj hz
      go_wp2_with fail
      go_ret3
      refine ⟨ret_iii ?_ ?_ ?_, rfl⟩
      · rw [← HJ.out]
      · rw [← HJ.out]
      · rw [← HJ.out, ← HZ.out]; omega

theorem specDistCode_out (n : Int) (w : World) (h : ¬ (1 ≤ n ∧ n ≤ 32768)) :
    Calls Try.prog 24 #[.int .i64 n] w fun e w' => e = .returned (.tuple #[.int .i64 0, .int .i64 0, .int .i64 0]) ∧ w' = w := by
  go_enter Try.func24, Try.ntmps24
  go_wp2_with fail
  refine (in_no _ _ _ _ h).mono ?_
  rintro e w1 ⟨rfl, rfl⟩
  go_wp2_with fail
  go_ret3
  exact ⟨rfl, rfl⟩
theorem specDistCode (n : Int) (w : World) :
    Calls Try.prog 24 #[.int .i64 n] w fun e w' => e = .returned (.tuple #[.int .i64 (DistCodeOf n).1, .int .i64 (DistCodeOf n).2.1, .int .i64 (DistCodeOf n).2.2]) ∧ w' = w := by
  unfold DistCodeOf
  by_cases h : 1 ≤ n ∧ n ≤ 32768
  · rw [if_pos h]
    obtain ⟨m, rfl⟩ := Int.eq_ofNat_of_zero_le (show 0 ≤ n by omega)
    rw [Int.toNat_natCast]
    exact specDistCode_in m w (by omega) (by omega)
  · rw [if_neg h]
    exact specDistCode_out n w h

end Go.Proofs.Ytbcnlggkoidmmaa

namespace Go.Proofs.Ytbcnlggkoidmmaa
open Go.RowKit Go.Joins TokMath

/-- What TokenOk answers. -/
def TokPost (x y z : Int) (w : World) (e : Ending) (w' : World) : Prop := e = .returned (.bool (decide (TokRight (x, y, z)))) ∧ Below w.heap.size w w'
theorem TokPost.yes {x y z : Int} {w w' : World} (h : TokRight (x, y, z)) (hb : Below w.heap.size w w') : TokPost x y z w (.returned (.bool true)) w' := ⟨by rw [decide_eq_true h], hb⟩
theorem TokPost.no {x y z : Int} {w w' : World} (h : ¬ TokRight (x, y, z)) (hb : Below w.heap.size w w') : TokPost x y z w (.returned (.bool false)) w' := ⟨by rw [decide_eq_false h], hb⟩
theorem tok_byte (x z : Int) : TokRight (x, 0, z) ↔ (0 ≤ x ∧ x ≤ 255) ∧ z = 0 := by
  unfold TokRight
  rw [if_pos rfl]
theorem tok_rep {x y z : Int} (h : y ≠ 0) : TokRight (x, y, z) ↔ x = 0 ∧ (3 ≤ y ∧ y ≤ 258) ∧ (1 ≤ z ∧ z ≤ 32768) := by
  unfold TokRight
  rw [if_neg h]

set_option maxHeartbeats 800000 in
theorem specTokenOk (x y z : Int) (w : World) : Calls Try.prog 45 #[.agg #[.int .i64 x, .int .i64 y, .int .i64 z]] w (TokPost x y z w) := by
  have HB := hid_of (bstart w (.cells #[.int .i64 x, .int .i64 y, .int .i64 z] 47))
  by_cases h0 : y = 0
  · subst h0
    have HR := hid_of (tok_byte x z)
    by_cases h1 : 0 ≤ x ∧ x ≤ 255
    · have H1 := hid_of h1
      by_cases h2 : z = 0
      · subst h2
        clear h1
        go_enter Try.func45, Try.ntmps45
        go_wp2_with fail
        refine (in_yes _ _ _ _ H1.out.1 H1.out.2).mono ?_
        rintro e w1 ⟨rfl, rfl⟩
        go_wp2_with fail
        go_ret
        exact TokPost.yes (HR.out.mpr ⟨H1.out, trivial⟩) HB.out
      · have d : (z == 0) = false := by simpa using h2
        clear h1
        go_enter Try.func45, Try.ntmps45
        go_wp2_with fail
        refine (in_yes _ _ _ _ H1.out.1 H1.out.2).mono ?_
        rintro e w1 ⟨rfl, rfl⟩
        go_wp2_with fail
        go_ret
        exact TokPost.no (fun h => h2 (HR.out.mp h).2) HB.out
    · have H1 := hid_of h1
      clear h1
      go_enter Try.func45, Try.ntmps45
      go_wp2_with fail
      refine (in_no _ _ _ _ H1.out).mono ?_
      rintro e w1 ⟨rfl, rfl⟩
      go_wp2_with fail
      go_ret
      exact TokPost.no (fun h => H1.out (HR.out.mp h).1) HB.out
  · have d0 : (y == 0) = false := by simpa using h0
    have HR := hid_of (tok_rep (x := x) (z := z) h0)
    by_cases h1 : x = 0
    · subst h1
      by_cases h2 : 3 ≤ y ∧ y ≤ 258
      · have H2 := hid_of h2
        clear h2
        by_cases h3 : 1 ≤ z ∧ z ≤ 32768
        · have H3 := hid_of h3
          clear h3
          go_enter Try.func45, Try.ntmps45
          go_wp2_with fail
          refine (in_yes _ _ _ _ H2.out.1 H2.out.2).mono ?_
          rintro e w1 ⟨rfl, rfl⟩
          go_wp2_with fail
          refine (in_yes _ _ _ _ H3.out.1 H3.out.2).mono ?_
          rintro e w1 ⟨rfl, rfl⟩
          go_wp2_with fail
          go_ret
          exact TokPost.yes (HR.out.mpr ⟨trivial, H2.out, H3.out⟩) HB.out
        · have H3 := hid_of h3
          clear h3
          go_enter Try.func45, Try.ntmps45
          go_wp2_with fail
          refine (in_yes _ _ _ _ H2.out.1 H2.out.2).mono ?_
          rintro e w1 ⟨rfl, rfl⟩
          go_wp2_with fail
          refine (in_no _ _ _ _ H3.out).mono ?_
          rintro e w1 ⟨rfl, rfl⟩
          go_wp2_with fail
          go_ret
          exact TokPost.no (fun h => H3.out (HR.out.mp h).2.2) HB.out
      · have H2 := hid_of h2
        clear h2
        go_enter Try.func45, Try.ntmps45
        go_wp2_with fail
        refine (in_no _ _ _ _ H2.out).mono ?_
        rintro e w1 ⟨rfl, rfl⟩
        go_wp2_with fail
        go_ret
        exact TokPost.no (fun h => H2.out (HR.out.mp h).2.1) HB.out
    · have d : (x == 0) = false := by simpa using h1
      go_enter Try.func45, Try.ntmps45
      go_wp2_with fail
      go_ret
      exact TokPost.no (fun h => h1 (HR.out.mp h).1) HB.out

end Go.Proofs.Ytbcnlggkoidmmaa
