/-
  The walks of the document's model of the symbols of lengths.
  The walks of the document's model of the symbols of distances.
  The walk of the model's l09Body: the pieces of a block's tokens.
-/
import Derived.Test.YtbcnlggkoidmmabGreatDoorRows
import Derived.Test.YtbcnlggkoidmmabGreatDoorPk01
import Derived.Test.YtbcnlggkoidmmabGreatDoorPk07
import Derived.Test.YtbcnlggkoidmmabGreatDoorPk08
import Derived.Test.YtbcnlggkoidmmabGreatDoorPk03
import Derived.Test.YtbcnlggkoidmmabGreatDoorPk11
import Derived.Test.YtbcnlggkoidmmabGreatDoorPk02
import Derived.Test.YtbcnlggkoidmmabGreatDoorPk10
import Derived.Test.YtbcnlggkoidmmabGreatDoorPk04
import Derived.WalkKit
import Derived.ProofKit
import Derived.WalkLawsBesides
import Derived.Lib.SmallJoins
import Derived.RegionTactic
import Derived.Deep.RegionWith
import Derived.Deep.RegionLaw
import Derived.Deep.RegionHeldLaw
import Derived.Deep.RegionHeld3
import Derived.Below
import Derived.OwnWalk
import Derived.Maps.AppendAt
import Derived.Deep.LoopGhost
namespace Go.Proofs.YtbcnlggkoidmmabGreatDoor
open Go.RowKit Go.Joins OutMath StepMath

theorem bits4 {j : Nat} (h : 4 ≤ j) : ((j : Int) - 4).tdiv 4 = ((bitsN 4 j : Nat) : Int) := by
  rw [Int.tdiv_eq_ediv_of_nonneg (by omega)]
  unfold bitsN
  omega

set_option maxHeartbeats 800000 in
theorem specLenBits (j : Nat) (w : World) (h : j < 28) :
    Calls Tryz.prog 80 #[.int .i64 (257 + (j : Int))] w fun e w' => e = .returned (.tuple #[.int .i64 ((bitsN 4 j : Nat) : Int), .int .i64 ((fromN 3 4 j : Nat) : Int)]) ∧ w' = w := by
  by_cases h8 : j < 8
  · have e1 := (len_small j (by omega)).1
    have e2 := (len_bits j h).2 h8
    rw [e1, e2]
    have d : decide ((257 : Int) + (j : Int) < 265) = true := decide_eq_true (by omega)
    have d2 : (257 : Int) + (j : Int) < 265 := by omega
    go_enter Tryz.func80, Tryz.ntmps80
    go_wp2_with fail
    go_ret2
    exact ⟨ret_ii rfl (by omega), rfl⟩
  · have d : decide ((257 : Int) + (j : Int) < 265) = false := decide_eq_false (by omega)
    have d2 : ¬ (257 : Int) + (j : Int) < 265 := by omega
    have d3 : ((257 : Int) + (j : Int) == 285) = false := by simp; omega
    have hq : ((257 : Int) + (j : Int) - 261).tdiv 4 = ((bitsN 4 j : Nat) : Int) := by
      rw [show (257 : Int) + (j : Int) - 261 = (j : Int) - 4 by omega]
      exact bits4 (by omega)
    have hb := (len_bits j h).1
    go_enter Tryz.func80, Tryz.ntmps80
    go_wp2_with fail
    go_loop [5, 6] (fun x i => ∃ q : Nat, 8 ≤ q ∧ q ≤ j ∧ i = .int .i64 (257 + (q : Int)) ∧ x = .int .i64 ((fromN 3 4 q : Nat) : Int)) (fun _ i => 300 - (intOf i).toNat)
    case atStart => exact ⟨8, by omega, by omega, rfl, by rw [len_8]; rfl⟩
    case round =>
      obtain ⟨q, hq1, hq2, rfl, rfl⟩ := hrel
      have hf := from_le (c := 3) (k := 4) (show q ≤ 28 by omega)
      rw [len_28] at hf
      by_cases hlt : q < j
      · have g1 : decide ((257 : Int) + (q : Int) < 257 + (j : Int)) = true := decide_eq_true (by omega)
        have g2 : (257 : Int) + (q : Int) < 257 + (j : Int) := by omega
        have g3 : ((257 : Int) + (q : Int) - 261).tdiv 4 = ((bitsN 4 q : Nat) : Int) := by
          rw [show (257 : Int) + (q : Int) - 261 = (q : Int) - 4 by omega]
          exact bits4 (by omega)
        have g4 := (len_bits q (by omega)).1
        have g5 := p2_le (show bitsN 4 q ≤ 5 by omega)
        have g6 : p2 5 = 32 := by decide +kernel
        have g7 := p2_pos (bitsN 4 q)
        have HN := hid_of (from_next 3 4 q)
        go_wp2_with fail
        refine (pow_any _ _ (by omega)).mono ?_
        rintro e w1 ⟨rfl, rfl⟩
        go_wp2_with fail
        go_round
        case rel => exact ⟨q + 1, by omega, by omega, by go_num, by rw [HN.out]⟩
        case measure => simp [intOf]; omega
      · obtain rfl : q = j := by omega
        go_wp2_with fail
        go_ret2
        exact ⟨rfl, rfl⟩

/-- What the ring of LengthCode has at hand: symbol, bits, least length. -/
def lenSt (n q : Nat) : Nat × Nat × Nat := if q = 0 then (285, 0, 258) else (257 + findN 3 4 n q, bitsN 4 (findN 3 4 n q), fromN 3 4 (findN 3 4 n q))
theorem lenSt_hit {n q : Nat} (h : fromN 3 4 q ≤ n) : lenSt n (q + 1) = (257 + q, bitsN 4 q, fromN 3 4 q) := by
  unfold lenSt
  rw [if_neg (by omega), find_step, if_pos h]
theorem lenSt_miss {n q : Nat} (h : ¬ fromN 3 4 q ≤ n) (h3 : 3 ≤ n) : lenSt n (q + 1) = lenSt n q := by
  have hq : q ≠ 0 := fun e => by subst e; exact h h3
  unfold lenSt
  rw [if_neg (by omega), if_neg hq, find_step, if_neg h]
theorem lenSt_done {n : Nat} : lenSt n 28 = (257 + findN 3 4 n 28, bitsN 4 (findN 3 4 n 28), fromN 3 4 (findN 3 4 n 28)) := rfl

set_option maxHeartbeats 1600000 in
theorem specLenCode_in (n : Nat) (w : World) (h3 : 3 ≤ n) (h : n < 258) :
    Calls Tryz.prog 49 #[.int .i64 (n : Int)] w fun e w' => e = .returned (.tuple #[.int .i64 (((lenCode n).1 : Nat) : Int), .int .i64 (((lenCode n).2.1 : Nat) : Int), .int .i64 (((lenCode n).2.2 : Nat) : Int)]) ∧ w' = w := by
  have hc : lenCode n = (257 + findN 3 4 n 28, bitsN 4 (findN 3 4 n 28), n - fromN 3 4 (findN 3 4 n 28)) := by
    unfold lenCode
    rw [if_pos h]
  rw [hc]
  have hfa := len_fact h3 h
  have d1 : decide ((n : Int) < 258) = true := decide_eq_true (by omega)
  go_enter Tryz.func49, Tryz.ntmps49
  go_wp2_with fail
  refine (in_yes _ _ _ _ (by omega) (by omega)).mono ?_
  rintro e w1 ⟨rfl, rfl⟩
  go_wp2_with fail
  go_loop [5, 6, 7, 8] (fun x y z i => ∃ q : Nat, q ≤ 28 ∧ i = .int .i64 (257 + (q : Int)) ∧ x = .int .i64 ((lenSt n q).1 : Nat) ∧ y = .int .i64 ((lenSt n q).2.1 : Nat) ∧ z = .int .i64 ((lenSt n q).2.2 : Nat)) (fun _ _ _ i => 300 - (intOf i).toNat)
  case atStart => exact ⟨0, by omega, rfl, rfl, rfl, rfl⟩
  case round =>
    obtain ⟨q, hq, rfl, rfl, rfl, rfl⟩ := hrel
    by_cases hlt : q < 28
    · have g1 : decide ((257 : Int) + (q : Int) < 285) = true := decide_eq_true (by omega)
      have g2 : (257 : Int) + (q : Int) < 285 := by omega
      have hlb := specLenBits q w1 hlt
      go_wp2_with fail
      refine hlb.mono ?_
      rintro e w2 ⟨rfl, rfl⟩
      clear hlb
      by_cases hf : fromN 3 4 q ≤ n
      · have HN := hid_of (lenSt_hit hf)
        have d : decide (((fromN 3 4 q : Nat) : Int) ≤ (n : Int)) = true := decide_eq_true (by omega)
        go_wp2_with fail
        go_round
        case rel => exact ⟨q + 1, by omega, by go_num, by rw [HN.out]; rfl, by rw [HN.out], by rw [HN.out]⟩
        case measure => simp [intOf]; omega
      · have HN := hid_of (lenSt_miss hf h3)
        have d : decide (((fromN 3 4 q : Nat) : Int) ≤ (n : Int)) = false := decide_eq_false (by omega)
        go_wp2_with fail
        go_round
        case rel => exact ⟨q + 1, by omega, by go_num, by rw [HN.out], by rw [HN.out], by rw [HN.out]⟩
        case measure => simp [intOf]; omega
    · obtain rfl : q = 28 := by omega
      rw [lenSt_done]
      have hr1 := hfa.2.1
      have g0 := (len_bits _ hfa.1).1
      have g1 := hfa.1
      obtain ⟨j, hj⟩ : ∃ j, j = findN 3 4 n 28 := ⟨_, rfl⟩
      obtain ⟨z, hz⟩ : ∃ z, z = fromN 3 4 j := ⟨_, rfl⟩
      rw [← hj] at hr1 g0 g1
      rw [← hz] at hr1
      rw [← hj, ← hz]
      have HJ := hid_of hj
      have HZ := hid_of hz
      clear hfa hc hj hz
      go_wp2_with fail
      go_ret3
      refine ⟨ret_iii ?_ ?_ ?_, rfl⟩
      · rw [← HJ.out]
      · rw [← HJ.out]
      · rw [← HJ.out, ← HZ.out]; omega

theorem specLenCode_last (w : World) :
    Calls Tryz.prog 49 #[.int .i64 258] w fun e w' => e = .returned (.tuple #[.int .i64 285, .int .i64 0, .int .i64 0]) ∧ w' = w := by
  go_enter Tryz.func49, Tryz.ntmps49
  go_wp2_with fail
  refine (in_yes _ _ _ _ (by omega) (by omega)).mono ?_
  rintro e w1 ⟨rfl, rfl⟩
  go_wp2_with fail
  go_loop [5, 6, 7, 8] (fun x y z i => x = .int .i64 285 ∧ y = .int .i64 0 ∧ z = .int .i64 258 ∧ i = .int .i64 257) (fun _ _ _ _ => 0)
  case atStart => exact ⟨rfl, rfl, rfl, rfl⟩
  case round =>
    obtain ⟨rfl, rfl, rfl, rfl⟩ := hrel
    go_wp2_with fail
    go_ret3
    exact ⟨rfl, rfl⟩
theorem specLenCode_out (n : Int) (w : World) (h : ¬ (3 ≤ n ∧ n ≤ 258)) :
    Calls Tryz.prog 49 #[.int .i64 n] w fun e w' => e = .returned (.tuple #[.int .i64 0, .int .i64 0, .int .i64 0]) ∧ w' = w := by
  go_enter Tryz.func49, Tryz.ntmps49
  go_wp2_with fail
  refine (in_no _ _ _ _ h).mono ?_
  rintro e w1 ⟨rfl, rfl⟩
  go_wp2_with fail
  go_ret3
  exact ⟨rfl, rfl⟩
theorem specLenCode (n : Int) (w : World) :
    Calls Tryz.prog 49 #[.int .i64 n] w fun e w' => e = .returned (.tuple #[.int .i64 (LengthCodeOf n).1, .int .i64 (LengthCodeOf n).2.1, .int .i64 (LengthCodeOf n).2.2]) ∧ w' = w := by
  unfold LengthCodeOf
  by_cases h : 3 ≤ n ∧ n ≤ 258
  · rw [if_pos h]
    obtain ⟨m, rfl⟩ := Int.eq_ofNat_of_zero_le (show 0 ≤ n by omega)
    rw [Int.toNat_natCast]
    by_cases h1 : m < 258
    · exact specLenCode_in m w (by omega) h1
    · obtain rfl : m = 258 := by omega
      exact specLenCode_last w
  · rw [if_neg h]
    exact specLenCode_out n w h

end Go.Proofs.YtbcnlggkoidmmabGreatDoor

namespace Go.Proofs.YtbcnlggkoidmmabGreatDoor
open Go.RowKit Go.Joins OutMath StepMath

theorem bits2 {j : Nat} (h : 2 ≤ j) : ((j : Int) - 2).tdiv 2 = ((bitsN 2 j : Nat) : Int) := by
  rw [Int.tdiv_eq_ediv_of_nonneg (by omega)]
  unfold bitsN
  omega

set_option maxHeartbeats 800000 in
theorem specDistBits (j : Nat) (w : World) (h : j < 30) :
    Calls Tryz.prog 81 #[.int .i64 (j : Int)] w fun e w' => e = .returned (.tuple #[.int .i64 ((bitsN 2 j : Nat) : Int), .int .i64 ((fromN 1 2 j : Nat) : Int)]) ∧ w' = w := by
  by_cases h4 : j < 4
  · have e1 := (dist_small j (by omega)).1
    have e2 := (dist_bits j h).2 h4
    rw [e1, e2]
    have d : decide ((j : Int) < 4) = true := decide_eq_true (by omega)
    go_enter Tryz.func81, Tryz.ntmps81
    go_wp2_with fail
    go_ret2
    exact ⟨ret_ii rfl (by omega), rfl⟩
  · have d : decide ((j : Int) < 4) = false := decide_eq_false (by omega)
    have hq := bits2 (show 2 ≤ j by omega)
    have hb := (dist_bits j h).1
    go_enter Tryz.func81, Tryz.ntmps81
    go_wp2_with fail
    go_loop [4, 5] (fun x i => ∃ q : Nat, 4 ≤ q ∧ q ≤ j ∧ i = .int .i64 (q : Int) ∧ x = .int .i64 ((fromN 1 2 q : Nat) : Int)) (fun _ i => 300 - (intOf i).toNat)
    case atStart => exact ⟨4, by omega, by omega, rfl, by rw [dist_4]; rfl⟩
    case round =>
      obtain ⟨q, hq1, hq2, rfl, rfl⟩ := hrel
      have hf := from_le (c := 1) (k := 2) (show q ≤ 30 by omega)
      rw [dist_30] at hf
      by_cases hlt : q < j
      · have g3 := bits2 (show 2 ≤ q by omega)
        have g4 := (dist_bits q (by omega)).1
        have g5 := p2_le (show bitsN 2 q ≤ 13 by omega)
        have g6 : p2 13 = 8192 := by decide +kernel
        have g7 := p2_pos (bitsN 2 q)
        have HN := hid_of (from_next 1 2 q)
        go_wp2_with fail
        refine (pow_any _ _ (by omega)).mono ?_
        rintro e w1 ⟨rfl, rfl⟩
        go_wp2_with fail
        go_round
        case rel => exact ⟨q + 1, by omega, by omega, by go_num, by rw [HN.out]⟩
        case measure => simp [intOf]; omega
      · obtain rfl : q = j := by omega
        go_wp2_with fail
        go_ret2
        exact ⟨rfl, rfl⟩

/-- What the ring of DistCode has at hand: symbol, bits, least distance. -/
def distSt (n q : Nat) : Nat × Nat × Nat := (findN 1 2 n q, bitsN 2 (findN 1 2 n q), fromN 1 2 (findN 1 2 n q))
theorem distSt_hit {n q : Nat} (h : fromN 1 2 q ≤ n) : distSt n (q + 1) = (q, bitsN 2 q, fromN 1 2 q) := by
  unfold distSt
  rw [find_step, if_pos h]
theorem distSt_miss {n q : Nat} (h : ¬ fromN 1 2 q ≤ n) : distSt n (q + 1) = distSt n q := by
  unfold distSt
  rw [find_step, if_neg h]
theorem distSt_zero (n : Nat) : distSt n 0 = (0, 0, 1) := by
  show (0, bitsN 2 0, 1) = _
  rw [show bitsN 2 0 = 0 by decide]
theorem distSt_done {n : Nat} : distSt n 30 = (findN 1 2 n 30, bitsN 2 (findN 1 2 n 30), fromN 1 2 (findN 1 2 n 30)) := rfl

set_option maxHeartbeats 1600000 in
theorem specDistCode_in (n : Nat) (w : World) (h1 : 1 ≤ n) (h : n ≤ 32768) :
    Calls Tryz.prog 50 #[.int .i64 (n : Int)] w fun e w' => e = .returned (.tuple #[.int .i64 (((distCode n).1 : Nat) : Int), .int .i64 (((distCode n).2.1 : Nat) : Int), .int .i64 (((distCode n).2.2 : Nat) : Int)]) ∧ w' = w := by
  have hc : distCode n = (findN 1 2 n 30, bitsN 2 (findN 1 2 n 30), n - fromN 1 2 (findN 1 2 n 30)) := rfl
  rw [hc]
  have hfa := dist_fact h1 h
  go_enter Tryz.func50, Tryz.ntmps50
  go_wp2_with fail
  refine (in_yes _ _ _ _ (by omega) (by omega)).mono ?_
  rintro e w1 ⟨rfl, rfl⟩
  go_wp2_with fail
  go_loop [5, 6, 7, 8] (fun x y z i => ∃ q : Nat, q ≤ 30 ∧ i = .int .i64 (q : Int) ∧ x = .int .i64 ((distSt n q).1 : Nat) ∧ y = .int .i64 ((distSt n q).2.1 : Nat) ∧ z = .int .i64 ((distSt n q).2.2 : Nat)) (fun _ _ _ i => 300 - (intOf i).toNat)
  case atStart => exact ⟨0, by omega, rfl, by rw [distSt_zero]; rfl, by rw [distSt_zero]; rfl, by rw [distSt_zero]; rfl⟩
  case round =>
    obtain ⟨q, hq, rfl, rfl, rfl, rfl⟩ := hrel
    by_cases hlt : q < 30
    · have g1 : decide ((q : Int) < 30) = true := decide_eq_true (by omega)
      have hlb := specDistBits q w1 hlt
      go_wp2_with fail
      refine hlb.mono ?_
      rintro e w2 ⟨rfl, rfl⟩
      clear hlb
      by_cases hf : fromN 1 2 q ≤ n
      · have HN := hid_of (distSt_hit hf)
        have d : decide (((fromN 1 2 q : Nat) : Int) ≤ (n : Int)) = true := decide_eq_true (by omega)
        go_wp2_with fail
        go_round
        case rel => exact ⟨q + 1, by omega, by go_num, by rw [HN.out], by rw [HN.out], by rw [HN.out]⟩
        case measure => simp [intOf]; omega
      · have HN := hid_of (distSt_miss hf)
        have d : decide (((fromN 1 2 q : Nat) : Int) ≤ (n : Int)) = false := decide_eq_false (by omega)
        go_wp2_with fail
        go_round
        case rel => exact ⟨q + 1, by omega, by go_num, by rw [HN.out], by rw [HN.out], by rw [HN.out]⟩
        case measure => simp [intOf]; omega
    · obtain rfl : q = 30 := by omega
      rw [distSt_done]
      have hr1 := hfa.2.1
      have g0 := (dist_bits _ hfa.1).1
      have g1 := hfa.1
      obtain ⟨j, hj⟩ : ∃ j, j = findN 1 2 n 30 := ⟨_, rfl⟩
      obtain ⟨z, hz⟩ : ∃ z, z = fromN 1 2 j := ⟨_, rfl⟩
      rw [← hj] at hr1 g0 g1
      rw [← hz] at hr1
      rw [← hj, ← hz]
      have HJ := hid_of hj
      have HZ := hid_of hz
      clear hfa hc hj hz
      go_wp2_with fail
      go_ret3
      refine ⟨ret_iii ?_ ?_ ?_, rfl⟩
      · rw [← HJ.out]
      · rw [← HJ.out]
      · rw [← HJ.out, ← HZ.out]; omega

theorem specDistCode_out (n : Int) (w : World) (h : ¬ (1 ≤ n ∧ n ≤ 32768)) :
    Calls Tryz.prog 50 #[.int .i64 n] w fun e w' => e = .returned (.tuple #[.int .i64 0, .int .i64 0, .int .i64 0]) ∧ w' = w := by
  go_enter Tryz.func50, Tryz.ntmps50
  go_wp2_with fail
  refine (in_no _ _ _ _ h).mono ?_
  rintro e w1 ⟨rfl, rfl⟩
  go_wp2_with fail
  go_ret3
  exact ⟨rfl, rfl⟩
theorem specDistCode (n : Int) (w : World) :
    Calls Tryz.prog 50 #[.int .i64 n] w fun e w' => e = .returned (.tuple #[.int .i64 (DistCodeOf n).1, .int .i64 (DistCodeOf n).2.1, .int .i64 (DistCodeOf n).2.2]) ∧ w' = w := by
  unfold DistCodeOf
  by_cases h : 1 ≤ n ∧ n ≤ 32768
  · rw [if_pos h]
    obtain ⟨m, rfl⟩ := Int.eq_ofNat_of_zero_le (show 0 ≤ n by omega)
    rw [Int.toNat_natCast]
    exact specDistCode_in m w (by omega) (by omega)
  · rw [if_neg h]
    exact specDistCode_out n w h

end Go.Proofs.YtbcnlggkoidmmabGreatDoor

namespace Go.Proofs.YtbcnlggkoidmmabGreatDoor
open Go.RowKit Go.Joins TokMath StepMath CodeMath TokLenMath TellMath PartMath BodyMath

theorem info_piece : (Tryz.prog.info? 70).map (fun i => (i.zero, i.size, i.bytes)) = some (some (.agg #[.int .i64 0, .int .i64 0, .bool false]), 3, 24) := by kernel_rfl

/-- Both codes and both lists of lengths, in memory. -/
structure BdMem (w : World) (a1 a2 o1 o2 : Option Addr) (f1 : Nat → Int) (n1 : Nat) (f2 : Nat → Int) (n2 m2 : Nat) : Prop where
  l1 : Came w a1 n1 f1
  l2 : Came w a2 n2 f2
  k1 : Came w o1 n1 (codeOf f1 n1)
  k2 : Came w o2 m2 (codeOf f2 n2)
theorem BdMem.called {w w' : World} {a1 a2 o1 o2 : Option Addr} {f1 : Nat → Int} {n1 : Nat} {f2 : Nat → Int} {n2 m2 : Nat} (h : BdMem w a1 a2 o1 o2 f1 n1 f2 n2 m2) (hb : Below w.heap.size w w') : BdMem w' a1 a2 o1 o2 f1 n1 f2 n2 m2 :=
  ⟨h.l1.called hb, h.l2.called hb, h.k1.called hb, h.k2.called hb⟩
theorem came_at {w : World} {a : Option Addr} {n : Nat} {f : Nat → Int} (h : Came w a n f) {i : Nat} (hi : i < n) : ∃ g off, a = some ⟨g, off, none⟩ ∧ g < w.heap.size ∧ w.cell? ⟨g, off + i, none⟩ = some (.int .i64 (f i)) := by
  rcases h with h | ⟨g, off, ha, hg, hc⟩
  · omega
  · exact ⟨g, off, ha, hg, hc i hi⟩

/-- The pieces so far. -/
def BySt (w2 w' : World) (g n cp : Nat) (P : List Part) : Prop := n = P.length ∧ w'.ownsRow w2.heap.size 70 3 (.slice (some ⟨g, 0, none⟩) n cp) P.length (pcells P) ∧ Below w2.heap.size w2 w'
theorem BySt.own {w2 w' : World} {g n cp : Nat} {P : List Part} (h : BySt w2 w' g n cp P) : w'.ownsRow w2.heap.size 70 3 (.slice (some ⟨g, 0, none⟩) n cp) P.length (pcells P) := h.2.1

theorem BySt.next {w2 wr X w3 : World} {g n cp m g' cap' : Nat} {P R : List Part} (h : BySt w2 wr g n cp P) (hR : R.length = m) (bX : Below wr.heap.size wr X) (y1 : w3.ownsRow w2.heap.size 70 3 (.slice (some ⟨g', 0, none⟩) (n + m) cap') (n + m) (pcells (P ++ R))) (y2 : X.grownBy w3 (some g)) : BySt w2 w3 g' (n + m) cap' (P ++ R) := by
  have hl : (P ++ R).length = n + m := by rw [List.length_append, ← h.1, hR]
  have hg := (h.2.1.lt g rfl).1
  have hs := bX.size
  have hB : Below w2.heap.size w2 w3 := (h.2.2.trans (bX.mono h.2.2.size)).grown y2 (by have := h.2.2.size; omega) (fun q hq => by cases hq; exact hg)
  exact ⟨hl.symm, by rw [hl]; exact y1, hB⟩
theorem far_cell {wr X w3 : World} {g b i : Nat} {v : Value} (bX : Below wr.heap.size wr X) (y2 : X.grownBy w3 (some g)) (hb : b < wr.heap.size) (hne : b ≠ g) (hc : wr.cell? ⟨b, i, none⟩ = some v) : w3.cell? ⟨b, i, none⟩ = some v :=
  (y2.cell_far ⟨b, i, none⟩ (Nat.lt_of_lt_of_le hb bX.size) (fun e => hne (Option.some.inj e))).trans ((bX.cell (p := ⟨b, i, none⟩) hb).trans hc)

set_option maxRecDepth 100000 in
set_option maxHeartbeats 6400000 in
theorem specBody (a a1 a2 : Option Addr) (c k1 k2 : Nat) (f1 f2 : Nat → Int) (n1 n2 : Nat) (L : List Tok) (w : World) (hC : TCame w a L.length (fun j => L.getD j (0, 0, 0))) (h1 : Came w a1 n1 f1) (h2 : Came w a2 n2 f2) (hL : L.length ≤ 12000) (hOk : BodyOk f1 n1 f2 n2 L) :
    Calls Tryz.prog 27 #[.slice a L.length c, .slice a1 n1 k1, .slice a2 n2 k2] w fun e w' => ∃ v, e = .returned v ∧ w'.ownsRow w.heap.size 70 3 v (bodyP f1 n1 f2 n2 L).length (pcells (bodyP f1 n1 f2 n2 L)) ∧ Below w.heap.size w w' := by
  have HC := hid_of hC
  have HOK := hid_of hOk
  have H1 := hid_of h1
  have H2 := hid_of h2
  have hn1 := hOk.c1.1
  have hn2 := hOk.m2
  have hsc := specCodes_good a1 n1 k1 f1 w h1 hOk.c1
  clear hC hOk h1 h2
  go_enter Tryz.func27, Tryz.ntmps27
  go_wp2_with fail
  refine hsc.mono ?_
  rintro e w1 ⟨rfl, o1, hB1⟩
  clear hsc
  have hsc2 : Calls Tryz.prog 34 #[.slice a2 n2 k2] w1 fun e w' => ∃ m2 b2, e = .returned (.tuple #[.slice (some ⟨w1.heap.size, 0, none⟩) m2 m2, .bool b2]) ∧ Came w' (some ⟨w1.heap.size, 0, none⟩) m2 (codeOf f2 n2) ∧ (Coded f2 n2 → m2 = n2) ∧ m2 ≤ 288 ∧ Below w1.heap.size w1 w' := by
    by_cases hc2 : Coded f2 n2
    · refine (specCodes_good a2 n2 k2 f2 w1 (H2.out.called hB1) hc2).mono ?_
      rintro e w' ⟨rfl, o2, hB2⟩
      exact ⟨n2, true, rfl, o2.sl.came, fun _ => rfl, hn2, hB2⟩
    · refine (specCodes_bad a2 n2 k2 f2 w1 (H2.out.called hB1) (by omega) hc2).mono ?_
      rintro e w' ⟨rfl, _, hB2⟩
      exact ⟨0, false, rfl, .inl rfl, fun h => absurd h hc2, by omega, hB2⟩
  have HM1 : Hid (Came w1 (some ⟨w.heap.size, 0, none⟩) n1 (codeOf f1 n1)) := o1.sl.came
  have HB1 := hid_of hB1
  clear o1 hB1
  go_wp2_with fail
  refine hsc2.mono ?_
  rintro e w2 ⟨m2, b2, rfl, hk2, hm2, hm288, hB2⟩
  clear hsc2
  have HMM : Hid (BdMem w2 a1 a2 (some ⟨w.heap.size, 0, none⟩) (some ⟨w1.heap.size, 0, none⟩) f1 n1 f2 n2 m2) := ⟨H1.out.called (bnext HB1.out hB2), H2.out.called (bnext HB1.out hB2), HM1.out.called hB2, hk2⟩
  have HB2 := hid_of (bnext HB1.out hB2)
  have HM2 := hid_of hm2
  clear hk2 hm2 hB2 HM1 HB1 H1 H2
  generalize w1.heap.size = G1 at HMM ⊢
  go_wp2_with fail
  have H0 : Hid (BySt w2 (w2.alloc (.cells #[] 70)) w2.heap.size 0 0 []) := ⟨rfl, ⟨rfl, .inr ⟨w2.heap.size, 0, #[], rfl, Nat.le_refl _, heap_alloc_new w2 _, Nat.le_refl _, Nat.zero_le _, rfl, rfl⟩⟩, bstart _ _⟩
  have HCC : Hid (∀ W, Below w2.heap.size w2 W → TCame W a L.length (fun j => L.getD j (0, 0, 0)) ∧ BdMem W a1 a2 (some ⟨w.heap.size, 0, none⟩) (some ⟨G1, 0, none⟩) f1 n1 f2 n2 m2 ∧ Below w.heap.size w W) := fun W h => ⟨HC.out.called (bnext HB2.out h), HMM.out.called h, bnext HB2.out h⟩
  clear HMM HC
  have hw2 : w.heap.size ≤ w2.heap.size := HB2.out.size
  clear HB2
  go_loopg [11, 12] (L.length + 1) (fun gk v i w' => ∃ (j g n cp : Nat), j ≤ L.length ∧ L.length - j ≤ gk ∧ i = .int .i64 j ∧ v = .slice (some ⟨g, 0, none⟩) n cp ∧ Hid (BySt w2 w' g n cp (toksP f1 n1 f2 n2 (L.take j))))
  case atStart => exact ⟨0, w2.heap.size, 0, 0, Nat.zero_le _, by omega, rfl, rfl, H0⟩
  case round =>
    clear H0
    obtain ⟨j, g, n, cp, hj, hgk, rfl, rfl, hS⟩ := hrel
    obtain ⟨hT, hM, hBw⟩ := HCC.out wr hS.out.2.2
    by_cases hlt : j < L.length
    · have dl : decide ((j : Int) < (L.length : Int)) = true := decide_eq_true (by omega)
      rcases hT with q | ⟨tg, off, rfl, htg, hc⟩
      · omega
      obtain ⟨c0, c1, c2⟩ := hc j hlt
      simp only [] at c0 c1 c2
      have hmem : L.getD j (0, 0, 0) ∈ L := by rw [List.getD_eq_getElem?_getD, List.getElem?_eq_getElem hlt]; exact List.getElem_mem hlt
      have hR := HOK.out.right _ hmem
      have hs1 := HOK.out.s1 _ hmem
      have hs2 := HOK.out.s2 _ hmem
      have hlen := toksP_length (f1 := f1) (n1 := n1) (f2 := f2) (n2 := n2) (L.take j)
      rw [List.length_take] at hlen
      have HSN := hid_of (toksP_snoc (f1 := f1) (n1 := n1) (f2 := f2) (n2 := n2) hlt)
      have HLEN := hid_of hlen
      obtain ⟨⟨x, y, z⟩, hr⟩ : ∃ r, r = L.getD j (0, 0, 0) := ⟨_, rfl⟩
      rw [← hr] at c0 c1 c2 hR hs1 hs2 HSN
      clear hc hr hmem hlen
      have HM := hid_of hM
      clear hM
      by_cases hy : y = 0
      · subst hy
        unfold TokRight at hR
        rw [if_pos rfl] at hR
        obtain ⟨⟨hx0, hx1⟩, hz⟩ := hR
        simp only [] at hx0 hx1 hz
        subst hz
        rw [sym1_byte] at hs1
        obtain ⟨xn, rfl⟩ := Int.eq_ofNat_of_zero_le hx0
        rw [Int.toNat_natCast] at hs1
        have hf15 := HOK.out.c1.2.1 xn hs1
        obtain ⟨g1, off1, ha1, hg1, k1⟩ := came_at HM.out.l1 hs1
        subst ha1
        obtain ⟨g3, off3, ha3, hg3, k3⟩ := came_at HM.out.k1 hs1
        cases ha3
        rw [Nat.zero_add] at k3
        have HTK : Hid (tokP f1 n1 f2 n2 ((xn : Int), 0, 0) = [(codeOf f1 n1 xn, (f1 xn).toNat, true)]) := rfl
        obtain ⟨fl, hfl⟩ := Int.eq_ofNat_of_zero_le hf15.1
        rw [hfl] at k1
        have HFL := hid_of hfl
        obtain ⟨V, hV⟩ : ∃ V, V = codeOf f1 n1 xn := ⟨_, rfl⟩
        rw [← hV] at k3
        have HV := hid_of hV
        clear hV hfl hs2 hf15
        go_wp2_with fail
        go_region_law (refine step_parts Tryz.underlying55 info_piece _ rfl (.tmp 48) (.tmp 58) rfl w2.heap.size (.slice (some ⟨g, 0, none⟩) n cp) (toksP f1 n1 f2 n2 (L.take j)) [(V, fl, true)] (by simp [Act.eval]) (by exact World.ownsRow.alloc hS.out.own _) ⟨wr.heap.size, 0, none⟩ 1 1 (by simp [Act.eval]) rfl (by omega) (by exact news_part wr _ _ _ _ _ rfl) (by have := HLEN.out; simp only [List.length_singleton]; omega) (by exact Nat.le_trans hS.out.2.2.size (by simp)) _ rfl (n + 1) (by rw [List.length_append, hS.out.1]; rfl) ?_; intro g' cap' w3 y1 y2 y3 y4)
        all_goals
          have HN : Hid (BySt w2 w3 g' (n + 1) cap' (toksP f1 n1 f2 n2 (L.take (j + 1)))) := by
            have e : toksP f1 n1 f2 n2 (L.take (j + 1)) = toksP f1 n1 f2 n2 (L.take j) ++ [(V, fl, true)] := by rw [HSN.out, HTK.out, HV.out, HFL.out]; rfl
            rw [e]
            exact hS.out.next rfl (by first | exact bstart _ _ | exact (bstart _ _).drew) y1 y2
          clear y1 y2 y3 y4 hS
          go_wp2_with fail
          go_roundg (L.length - (j + 1))
          case measure => omega
          case rel => exact ⟨j + 1, g', n + 1, cap', by omega, Nat.le_refl _, by go_num, rfl, HN⟩
      · have dy : (y == 0) = false := by simpa using hy
        unfold TokRight at hR
        rw [if_neg hy] at hR
        obtain ⟨hx, hy2, hz2⟩ := hR
        simp only [] at hx hy2 hz2
        subst hx
        rw [sym1_rep hy] at hs1
        obtain ⟨hc2, hs2⟩ := hs2 hy
        obtain rfl : m2 = n2 := HM2.out hc2
        unfold sym2 at hs2
        simp only [] at hs2
        have ra := len_range hy2
        have rb := dist_range hz2
        have sa := lenCode_small hy2
        have sb := distCode_small hz2
        have hl := fun W => specLenCode y W
        have hd := fun W => specDistCode z W
        have htk : tokP f1 n1 f2 m2 (0, y, z) = [codeP f1 n1 (LengthCodeOf y).1.toNat, ((LengthCodeOf y).2.2, (LengthCodeOf y).2.1.toNat, false), codeP f2 m2 (DistCodeOf z).1.toNat, ((DistCodeOf z).2.2, (DistCodeOf z).2.1.toNat, false)] := if_neg hy
        obtain ⟨⟨l1, l2, l3⟩, hlc⟩ : ∃ r, r = LengthCodeOf y := ⟨_, rfl⟩
        obtain ⟨⟨d1, d2, d3⟩, hdc⟩ : ∃ r, r = DistCodeOf z := ⟨_, rfl⟩
        rw [← hlc] at hl hs1 ra sa htk
        rw [← hdc] at hd hs2 rb sb htk
        clear hlc hdc
        simp only [] at hl hs1 ra sa hd hs2 rb sb htk
        obtain ⟨an, rfl⟩ := Int.eq_ofNat_of_zero_le (show 0 ≤ l1 by omega)
        obtain ⟨bn, rfl⟩ := Int.eq_ofNat_of_zero_le (show 0 ≤ d1 by omega)
        obtain ⟨lb, rfl⟩ := Int.eq_ofNat_of_zero_le (show 0 ≤ l2 by omega)
        obtain ⟨db, rfl⟩ := Int.eq_ofNat_of_zero_le (show 0 ≤ d2 by omega)
        simp only [Int.toNat_natCast] at hs1 hs2 htk
        have hf15 := HOK.out.c1.2.1 an hs1
        have hg15 := hc2.2.1 bn hs2
        obtain ⟨g1, off1, ha1, hg1, k1⟩ := came_at HM.out.l1 hs1
        subst ha1
        obtain ⟨g3, off3, ha3, hg3, k3⟩ := came_at HM.out.k1 hs1
        cases ha3
        obtain ⟨g2, off2, ha2, hg2, k2⟩ := came_at HM.out.l2 hs2
        subst ha2
        obtain ⟨g4, off4, ha4, hg4, k4⟩ := came_at HM.out.k2 hs2
        cases ha4
        rw [Nat.zero_add] at k3 k4
        obtain ⟨fl, hfl⟩ := Int.eq_ofNat_of_zero_le hf15.1
        obtain ⟨gl, hgl⟩ := Int.eq_ofNat_of_zero_le hg15.1
        have hge : g1 ≠ g ∧ g2 ≠ g ∧ w.heap.size ≠ g ∧ G1 ≠ g := by
          have hM0 := (HCC.out w2 (Below.refl _ _)).2.1
          have hgg := (hS.out.own.lt g rfl).1
          obtain ⟨u1, v1, e1, b1, _⟩ := came_at hM0.l1 hs1
          obtain ⟨u2, v2, e2, b2, _⟩ := came_at hM0.l2 hs2
          obtain ⟨u3, v3, e3, b3, _⟩ := came_at hM0.k1 hs1
          obtain ⟨u4, v4, e4, b4, _⟩ := came_at hM0.k2 hs2
          cases e1
          cases e2
          cases e3
          cases e4
          omega
        have HTK : Hid (tokP f1 n1 f2 m2 (0, y, z) = [(codeOf f1 n1 an, fl, true), (l3, lb, false), (codeOf f2 m2 bn, gl, true), (d3, db, false)]) := by
          show _ = _
          rw [htk]
          unfold codeP
          rw [hfl, hgl]
          rfl
        rw [hfl] at k1
        rw [hgl] at k2
        generalize codeOf f1 n1 an = V at k3 HTK
        generalize codeOf f2 m2 bn = U at k4 HTK
        clear hfl hgl htk hf15 hg15 sa sb ra rb hc2
        go_wp2_with fail
        refine (hl _).mono ?_
        rintro e w4 ⟨rfl, rfl⟩
        go_wp2_with fail
        refine (hd _).mono ?_
        rintro e w5 ⟨rfl, rfl⟩
        clear hl hd
        go_wp2_with fail
        have ne1 := World.new_ne w5 ⟨g1, off1 + an, none⟩ k1
        have ne2 := World.new_ne w5 ⟨g2, off2 + bn, none⟩ k2
        have ne3 := World.new_ne w5 ⟨w.heap.size, an, none⟩ k3
        have ne4 := World.new_ne w5 ⟨G1, bn, none⟩ k4
        go_region_held_law (fun w' => w'.cell? ⟨g1, off1 + an, none⟩ = some (.int .i64 (fl : Int)) ∧ w'.cell? ⟨w.heap.size, an, none⟩ = some (.int .i64 V) ∧ w'.cell? ⟨g2, off2 + bn, none⟩ = some (.int .i64 (gl : Int)) ∧ w'.cell? ⟨G1, bn, none⟩ = some (.int .i64 U)) (first | go_keep | (refine ⟨?_, ?_, ?_, ?_⟩ <;> first | assumption | go_keep | (simp [*]; done))) ((refine step_parts Tryz.underlying55 info_piece _ rfl (.tmp 80) (.tmp 105) rfl w2.heap.size (.slice (some ⟨g, 0, none⟩) n cp) (toksP f1 n1 f2 m2 (L.take j)) [(V, fl, true), (l3, lb, false), (U, gl, true), (d3, db, false)] (by simp [Act.eval]) (by exact World.ownsRow.alloc hS.out.own _) ⟨w5.heap.size, 0, none⟩ 4 4 (by simp [Act.eval]) rfl (by omega) (by exact news_parts w5 _ [(V, fl, true), (l3, lb, false), (U, gl, true), (d3, db, false)] _ rfl) (by have := HLEN.out; simp only [List.length_cons, List.length_nil]; omega) (by exact Nat.le_trans hS.out.2.2.size (by simp)) _ rfl (n + 4) (by rw [List.length_append, hS.out.1]; rfl) ?_; intro g' cap' w3 y1 y2 y3 y4; have q1 := far_cell (by first | exact bstart w5 _ | exact (bstart w5 _).drew) y2 hg1 hge.1 k1; have q2 := far_cell (by first | exact bstart w5 _ | exact (bstart w5 _).drew) y2 hg2 hge.2.1 k2; have q3 := far_cell (by first | exact bstart w5 _ | exact (bstart w5 _).drew) y2 hg3 hge.2.2.1 k3; have q4 := far_cell (by first | exact bstart w5 _ | exact (bstart w5 _).drew) y2 hg4 hge.2.2.2 k4))
        all_goals
          have HN : Hid (BySt w2 w3 g' (n + 4) cap' (toksP f1 n1 f2 m2 (L.take (j + 1)))) := by
            have e : toksP f1 n1 f2 m2 (L.take (j + 1)) = toksP f1 n1 f2 m2 (L.take j) ++ [(V, fl, true), (l3, lb, false), (U, gl, true), (d3, db, false)] := by rw [HSN.out, HTK.out]
            rw [e]
            exact hS.out.next rfl (by first | exact bstart _ _ | exact (bstart _ _).drew) y1 y2
          clear y1 y2 y3 y4 hS
          go_wp2_with fail
          go_roundg (L.length - (j + 1))
          case measure => omega
          case rel => exact ⟨j + 1, g', n + 4, cap', by omega, Nat.le_refl _, by go_num, rfl, HN⟩
    · obtain rfl : L.length = j := by omega
      have dl : decide ((L.length : Int) < (L.length : Int)) = false := decide_eq_false (by omega)
      rw [List.take_length] at hS
      have hs1 := HOK.out.e1
      have b256 : (256 : Int) < (n1 : Int) := by omega
      have hf15 := HOK.out.c1.2.1 256 hs1
      obtain ⟨g1, off1, ha1, hg1, k1⟩ := came_at hM.l1 hs1
      subst ha1
      obtain ⟨g3, off3, ha3, hg3, k3⟩ := came_at hM.k1 hs1
      cases ha3
      rw [Nat.zero_add] at k3
      obtain ⟨fl, hfl⟩ := Int.eq_ofNat_of_zero_le hf15.1
      have hlen := toksP_length (f1 := f1) (n1 := n1) (f2 := f2) (n2 := n2) L
      have HBP : Hid (bodyP f1 n1 f2 n2 L = toksP f1 n1 f2 n2 L ++ [(codeOf f1 n1 256, fl, true)]) := by
        show toksP f1 n1 f2 n2 L ++ [codeP f1 n1 256] = _
        unfold codeP
        rw [hfl]
        rfl
      rw [hfl] at k1
      generalize codeOf f1 n1 256 = V at k3 HBP
      have HLEN := hid_of hlen
      have HBw := hid_of hBw
      clear hfl hlen hf15 hM hT hBw
      go_wp2_with fail
      go_region_law (refine step_parts Tryz.underlying55 info_piece _ rfl (.tmp 107) (.tmp 115) rfl w2.heap.size (.slice (some ⟨g, 0, none⟩) n cp) (toksP f1 n1 f2 n2 L) [(V, fl, true)] (by simp [Act.eval]) (by exact World.ownsRow.alloc hS.out.own _) ⟨wr.heap.size, 0, none⟩ 1 1 (by simp [Act.eval]) rfl (by omega) (by exact news_part wr _ _ _ _ _ rfl) (by have := HLEN.out; simp only [List.length_singleton]; omega) (by exact Nat.le_trans hS.out.2.2.size (by simp)) _ rfl (n + 1) (by rw [List.length_append, hS.out.1]; rfl) ?_; intro g' cap' w3 y1 y2 y3 y4)
      all_goals
        have HN : Hid (BySt w2 w3 g' (n + 1) cap' (bodyP f1 n1 f2 n2 L)) := by
          rw [HBP.out]
          exact hS.out.next rfl (by first | exact bstart _ _ | exact (bstart _ _).drew) y1 y2
        clear y1 y2 y3 y4 hS
        go_wp2_with fail
        go_ret
        have hown := HN.out.2.1
        refine ⟨_, rfl, ?_, (HCC.out _ HN.out.2.2).2.2⟩
        exact ⟨hown.1, by
          rcases hown.2 with q | ⟨g5, cap5, cur5, e5, b5, h5⟩
          · exact .inl q
          · exact .inr ⟨g5, cap5, cur5, e5, Nat.le_trans hw2 b5, h5⟩⟩
end Go.Proofs.YtbcnlggkoidmmabGreatDoor
