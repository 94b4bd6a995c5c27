/-
  The walk of the program's BestFilter.
-/
import Derived.Test.YtccjjpdhojmcgabRows
import Derived.Test.YtccjjpdhojmcgabBase
import Derived.Test.YtccjjpdhojmcgabFiltMath
import Derived.Test.YtccjjpdhojmcgabFiltVal
import Derived.Test.YtccjjpdhojmcgabFiltAns
import Derived.Test.YtccjjpdhojmcgabFiltSmall
import Derived.Test.YtccjjpdhojmcgabFiltRowImpl
import Derived.WalkKit
import Derived.ProofKit
import Derived.WalkLawsBesides
import Derived.Below
import Derived.Lib.SmallJoins
namespace Go.Proofs.Ytccjjpdhojmcgab
open Go.RowKit Go.Joins TakeMath FiltMath

/-- By kind 0 a row stays as it is. -/
theorem filtT_zero (row above : ByteArray) (unit : Nat) : filtT 0 row above unit = row := by
  have e : filtL 0 (bts row) (bts above) unit row.size = (List.range row.size).map (bts row) := by
    unfold filtL
    refine List.map_congr_left fun i _ => ?_
    have := bts_byte row i
    have h0 : says 0 (bts row) (bts above) unit i = 0 := by simp [says, told]
    unfold filtB
    rw [h0]
    omega
  unfold filtT
  rw [e]
  exact str_bts row
set_option maxHeartbeats 1600000 in
theorem implBest_in (row above : ByteArray) (unit : Nat) (w : World) (h : FiltR 0 row above (unit : Int)) :
    Calls Try.prog 5 #[.string row, .string above, .int .i64 (unit : Int)] w fun e w' => e = .returned (.tuple #[.int .i64 ((least (wk row above unit) 4 : Nat) : Int), .bool true]) ∧ Below w.heap.size w w' := by
  have hcan := fun W => canFilter_any row above (unit : Int) W
  rw [decide_eq_true h] at hcan
  have hwu : (Lit.int .i64 (unit : Int)).wf = true := by
    have := h.2.1
    simp [Lit.wf, IntKind.min, IntKind.max, IntKind.signed, IntKind.bits]
    omega
  have hs := h.2.2.1
  have hn := h.2.2.2
  have hW0 := fun W => weight_answer row W (by omega)
  have HF : Hid (∀ j : Nat, j ≤ 4 → ∀ W, Calls Try.prog 10 #[.int .i64 (j : Int), .string row, .string above, .int .i64 (unit : Int)] W fun e w' => e = .returned (.tuple #[.string (filtT (j : Int) row above unit), .bool true]) ∧ Below W.heap.size W w') := fun j hj W => by
    have hR : FiltR (j : Int) row above (unit : Int) := h.kind (by omega)
    have := filter_answer (j : Int) row above (unit : Int) W (wf_small13 _ (by omega)) hwu (by omega) (by omega)
    unfold filtV at this
    rw [if_pos hR, decide_eq_true hR, Int.toNat_natCast] at this
    exact this
  have HW : Hid (∀ j W, Calls Try.prog 9 #[.string (filtT ((j : Nat) : Int) row above unit)] W fun e w' => e = .returned (.int .i64 (wk row above unit j)) ∧ Below W.heap.size W w') := fun j W => weight_answer _ W (by rw [filtT_size]; omega)
  have HK : Hid (∀ j, 0 ≤ wk row above unit j ∧ wk row above unit j ≤ 25600) := fun j => wk_range row above unit j hn
  have HZ : Hid (weight row = wk row above unit 0) := by
    show _ = _
    unfold wk
    rw [show ((0 : Nat) : Int) = 0 from rfl, filtT_zero]
  rw [HZ.out] at hW0
  clear h hs hwu hn
  generalize wk row above unit = f at *
  go_enter Try.func5, Try.ntmps5
  go_wp2_with fail
  refine (hcan _).mono ?_
  rintro e w1 ⟨rfl, rfl⟩
  go_wp2_with fail
  refine (hW0 _).mono ?_
  rintro e w2 ⟨rfl, hB2⟩
  have HB2 := hid_of hB2
  clear hB2 hW0 hcan
  go_wp2_with fail
  go_loopw [8, 9, 10] (fun b l i w' => ∃ j : Nat, j ≤ 4 ∧ i = .int .i64 ((j : Int) + 1) ∧ b = .int .i64 ((least f j : Nat) : Int) ∧ l = .int .i64 (f (least f j)) ∧ Hid (Below w1.heap.size w1 w')) (fun _ _ i _ => 5 - (intOf i).toNat)
  case atStart => exact ⟨0, by omega, rfl, rfl, rfl, HB2⟩
  case round =>
    obtain ⟨j, hj, rfl, rfl, rfl, hS⟩ := hrel
    by_cases hlt : j < 4
    · have dl : decide ((j : Int) + 1 < 5) = true := decide_eq_true (by omega)
      have hf := HF.out (j + 1) (by omega)
      have hw := HW.out (j + 1)
      rw [show ((j + 1 : Nat) : Int) = (j : Int) + 1 by omega] at hf hw
      have k1 := HK.out (j + 1)
      have k2 := HK.out (least f j)
      have HL : Hid (least f (j + 1) = if f (j + 1) < f (least f j) then j + 1 else least f j) := rfl
      obtain ⟨A, hA⟩ : ∃ A, A = f (j + 1) := ⟨_, rfl⟩
      obtain ⟨B, hB⟩ : ∃ B, B = f (least f j) := ⟨_, rfl⟩
      rw [← hA] at hw k1
      rw [← hB] at k2
      have HA := hid_of hA
      have HBq := hid_of hB
      rw [← hB]
      clear hA hB
      go_wp2_with fail
      refine (hf _).mono ?_
      rintro e w3 ⟨rfl, hB3⟩
      have HB3 := hid_of (bnext hS.out hB3)
      clear hB3
      go_wp2_with fail
      refine (hw _).mono ?_
      rintro e w4 ⟨rfl, hB4⟩
      have HB4 := hid_of (bnext HB3.out hB4)
      clear hB4
      by_cases hc : A < B
      · have dc : decide (A < B) = true := decide_eq_true hc
        have HL2 : Hid (least f (j + 1) = j + 1) := by show _ = _; rw [HL.out, ← HA.out, ← HBq.out, if_pos hc]
        go_wp2_with fail
        go_roundw
        case rel => exact ⟨j + 1, by omega, by go_num, by rw [HL2.out]; go_num, by rw [HL2.out, HA.out], HB4⟩
        case measure => simp [intOf]; omega
      · have dc : decide (A < B) = false := decide_eq_false hc
        have HL2 : Hid (least f (j + 1) = least f j) := by show _ = _; rw [HL.out, ← HA.out, ← HBq.out, if_neg hc]
        go_wp2_with fail
        go_roundw
        case rel => exact ⟨j + 1, by omega, by go_num, by rw [HL2.out], by rw [HL2.out, HBq.out], HB4⟩
        case measure => simp [intOf]; omega
    · obtain rfl : j = 4 := by omega
      go_wp2_with fail
      refine bodyPost_ret (v := .tuple #[.int .i64 ((least f 4 : Nat) : Int), .bool true]) ?_ rfl ⟨rfl, hS.out⟩
      simp [results, Try.results5, go_sem]
theorem implBest_out (row above : ByteArray) (unit : Int) (w : World) (h : ¬ FiltR 0 row above unit) :
    Calls Try.prog 5 #[.string row, .string above, .int .i64 unit] w fun e w' => e = .returned (.tuple #[.int .i64 0, .bool false]) ∧ Below w.heap.size w w' := by
  have hcan := fun W => canFilter_any row above unit W
  rw [decide_eq_false h] at hcan
  clear h
  go_enter Try.func5, Try.ntmps5
  go_wp2_with fail
  refine (hcan _).mono ?_
  rintro e w1 ⟨rfl, rfl⟩
  go_wp2_with fail
  refine bodyPost_ret (v := .tuple #[.int .i64 0, .bool false]) ?_ rfl ⟨rfl, Below.refl _ _⟩
  simp [results, Try.results5, go_sem]
theorem bestF_answer : BestFAnswer := by
  intro row above unit w hu h1 h2
  unfold bestV
  by_cases h : FiltR 0 row above unit
  · rw [if_pos h, decide_eq_true h]
    obtain ⟨u, rfl⟩ : ∃ u : Nat, unit = (u : Int) := ⟨unit.toNat, by have := h.2.1; omega⟩
    exact implBest_in row above u w h
  · rw [if_neg h, decide_eq_false h]
    exact implBest_out row above unit w h
end Go.Proofs.Ytccjjpdhojmcgab
