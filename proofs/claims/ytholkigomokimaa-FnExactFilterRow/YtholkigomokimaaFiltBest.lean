/-
  The model's filters, each answer as one value; the lightest kind.
-/
import Derived.Test.YtholkigomokimaaRows
import Derived.Test.YtholkigomokimaaBase
import Derived.Test.YtholkigomokimaaFiltMath
import Derived.Test.YtholkigomokimaaFiltVal
import Derived.Test.YtholkigomokimaaFiltSpec
import Derived.Test.YtholkigomokimaaFiltSays
import Derived.Test.YtholkigomokimaaFiltRows
import Derived.WalkKit
import Derived.ProofKit
import Derived.WalkLawsBesides
import Derived.Below
import Derived.Deep.LoopGhost
import Derived.Lib.SmallJoins
namespace Go.Proofs.Ytholkigomokimaa
open Go.RowKit Go.Joins TakeMath FiltMath

theorem specFilter (k : Int) (row above : ByteArray) (unit : Int) (w : World) (h1 : row.size ≤ 1048576) : Calls Try.prog 18 #[.int .i64 k, .string row, .string above, .int .i64 unit] w fun e w' => e = .returned (.tuple #[.string (filtV k row above unit), .bool (decide (FiltR k row above unit))]) ∧ Below w.heap.size w w' := by
  unfold filtV
  by_cases h : FiltR k row above unit
  · rw [if_pos h, decide_eq_true h]
    obtain ⟨u, hu⟩ : ∃ u : Nat, unit = (u : Int) := ⟨unit.toNat, by have := h.2.1; omega⟩
    subst hu
    exact specFilter_in k row above u w h
  · rw [if_neg h, decide_eq_false h]
    refine (specFilter_out k row above unit w h h1).mono ?_
    rintro e w' ⟨rfl, rfl⟩
    exact ⟨rfl, Below.refl _ _⟩
theorem specUnfilter (k : Int) (row above : ByteArray) (unit : Int) (w : World) (h1 : row.size ≤ 1048576) : Calls Try.prog 28 #[.int .i64 k, .string row, .string above, .int .i64 unit] w fun e w' => e = .returned (.tuple #[.string (unfV k row above unit), .bool (decide (FiltR k row above unit))]) ∧ Below w.heap.size w w' := by
  unfold unfV
  by_cases h : FiltR k row above unit
  · rw [if_pos h, decide_eq_true h]
    obtain ⟨u, hu⟩ : ∃ u : Nat, unit = (u : Int) := ⟨unit.toNat, by have := h.2.1; omega⟩
    subst hu
    exact specUnfilter_in k row above u w h
  · rw [if_neg h, decide_eq_false h]
    refine (specUnfilter_out k row above unit w h h1).mono ?_
    rintro e w' ⟨rfl, rfl⟩
    exact ⟨rfl, Below.refl _ _⟩
set_option maxHeartbeats 1600000 in
theorem specBestF_in (row above : ByteArray) (unit : Nat) (w : World) (h : FiltR 0 row above (unit : Int)) : Calls Try.prog 30 #[.string row, .string above, .int .i64 (unit : Int)] w fun e w' => e = .returned (.tuple #[.int .i64 (least (wk row above unit) 4 : Nat), .bool true]) ∧ Below w.heap.size w w' := by
  have hs := h.2.2.2
  have HF := hid_of h
  have hwr := fun k => wk_range row above unit k hs
  clear h
  go_enter Try.func30, Try.ntmps30
  go_wp2_with fail
  go_loopg [8, 9, 10] 6 (fun gk b m i w' => ∃ (j : Nat) (B : Nat) (M : Int), j ≤ 5 ∧ 5 - j ≤ gk ∧ i = .int .i64 (j : Int) ∧ b = .int .i64 (B : Int) ∧ m = .int .i64 M ∧ ((j = 0 ∧ B = 0 ∧ M = -1) ∨ (1 ≤ j ∧ 0 ≤ M ∧ M ≤ 25600 ∧ B ≤ 4)) ∧ Hid ((∀ p, j = p + 1 → B = least (wk row above unit) p ∧ M = wk row above unit B) ∧ Below w.heap.size w w'))
  case atStart => exact ⟨0, 0, -1, by omega, by omega, rfl, rfl, rfl, .inl ⟨rfl, rfl, rfl⟩, fun p hp => by omega, Below.refl _ _⟩
  case round =>
    obtain ⟨j, B, M, hj, hgk, rfl, rfl, rfl, hM, hS⟩ := hrel
    by_cases hlt : j < 5
    · have dl : decide ((j : Int) < 5) = true := decide_eq_true (by omega)
      have dl2 : decide (j < 5) = true := decide_eq_true hlt
      have hfi := fun W => specFilter_in (j : Int) row above unit W (HF.out.kind (by omega))
      have hwe := fun W => specWeight (filtT (j : Int) row above unit) W (by rw [filtT_size]; omega)
      have HW : Hid (weight (filtT (j : Int) row above unit) = wk row above unit j) := rfl
      have hr := hwr j
      rw [← HW.out] at hr
      obtain ⟨X, hX⟩ : ∃ X, X = weight (filtT (j : Int) row above unit) := ⟨_, rfl⟩
      rw [← hX] at hwe hr HW
      generalize filtT (j : Int) row above unit = T at *
      clear hX hwr
      rcases hM with ⟨rfl, rfl, rfl⟩ | ⟨hj1, hM0, hM1, hB4⟩
      · have HN : Hid ((∀ p, 1 = p + 1 → 0 = least (wk row above unit) p ∧ X = wk row above unit 0) ∧ Below w.heap.size w wr) := ⟨fun p hp => by
          obtain rfl : p = 0 := by omega
          exact ⟨rfl, HW.out⟩, hS.out.2⟩
        clear hS
        go_wp2_with fail
        refine (hfi _).mono ?_
        rintro e w1 ⟨rfl, hB1⟩
        have HB1 := hid_of (bnext HN.out.2 hB1)
        clear hB1
        go_wp2_with fail
        refine (hwe _).mono ?_
        rintro e w2 ⟨rfl, rfl⟩
        go_wp2_with fail
        go_roundg 4
        case measure => omega
        case rel => exact ⟨1, 0, X, by omega, by omega, rfl, rfl, rfl, .inr ⟨by omega, hr.1, hr.2, by omega⟩, HN.out.1, HB1.out⟩
      · obtain ⟨p, rfl⟩ : ∃ p, j = p + 1 := ⟨j - 1, by omega⟩
        have HPQ : Hid (B = least (wk row above unit) p ∧ M = wk row above unit B) := hS.out.1 p rfl
        have HBL := hid_of hS.out.2
        have dM : decide (M < 0) = false := decide_eq_false (by omega)
        clear hS
        by_cases hless : X < M
        · have dX : decide (X < M) = true := decide_eq_true hless
          have HN : Hid (∀ q, p + 1 + 1 = q + 1 → p + 1 = least (wk row above unit) q ∧ X = wk row above unit (p + 1)) := fun q hq => by
            obtain rfl : q = p + 1 := by omega
            refine ⟨?_, HW.out⟩
            unfold least
            rw [if_pos (by rw [← HPQ.out.1, ← HPQ.out.2, ← HW.out]; exact hless)]
          go_wp2_with fail
          refine (hfi _).mono ?_
          rintro e w1 ⟨rfl, hB1⟩
          have HB1 := hid_of (bnext HBL.out hB1)
          clear hB1
          go_wp2_with fail
          refine (hwe _).mono ?_
          rintro e w2 ⟨rfl, rfl⟩
          go_wp2_with fail
          refine (hwe _).mono ?_
          rintro e w2 ⟨rfl, rfl⟩
          go_wp2_with fail
          go_roundg (5 - (p + 2))
          case measure => omega
          case rel => exact ⟨p + 2, p + 1, X, by omega, by omega, by go_num, by go_num, rfl, .inr ⟨by omega, hr.1, hr.2, by omega⟩, HN.out, HB1.out⟩
        · have dX : decide (X < M) = false := decide_eq_false hless
          have HN : Hid (∀ q, p + 1 + 1 = q + 1 → B = least (wk row above unit) q ∧ M = wk row above unit B) := fun q hq => by
            obtain rfl : q = p + 1 := by omega
            refine ⟨?_, HPQ.out.2⟩
            unfold least
            rw [if_neg (by rw [← HPQ.out.1, ← HPQ.out.2, ← HW.out]; exact hless)]
            exact HPQ.out.1
          go_wp2_with fail
          refine (hfi _).mono ?_
          rintro e w1 ⟨rfl, hB1⟩
          have HB1 := hid_of (bnext HBL.out hB1)
          clear hB1
          go_wp2_with fail
          refine (hwe _).mono ?_
          rintro e w2 ⟨rfl, rfl⟩
          go_wp2_with fail
          go_roundg (5 - (p + 2))
          case measure => omega
          case rel => exact ⟨p + 2, B, M, by omega, by omega, by go_num, rfl, rfl, .inr ⟨by omega, hM0, hM1, hB4⟩, HN.out, HB1.out⟩
    · obtain rfl : j = 5 := by omega
      have dl : decide (((5 : Nat) : Int) < 5) = false := decide_eq_false (by omega)
      have HE : Hid (B = least (wk row above unit) 4) := (hS.out.1 4 rfl).1
      have HBL := hid_of hS.out.2
      clear hS hM
      go_wp2_with fail
      refine bodyPost_ret (v := .tuple #[.int .i64 (B : Int), .bool true]) ?_ rfl ⟨by rw [HE.out], HBL.out⟩
      simp [results, Try.results30, go_sem]
theorem specBestF (row above : ByteArray) (unit : Int) (w : World) (h1 : row.size ≤ 1048576) : Calls Try.prog 30 #[.string row, .string above, .int .i64 unit] w fun e w' => e = .returned (.tuple #[.int .i64 (bestV row above unit), .bool (decide (FiltR 0 row above unit))]) ∧ Below w.heap.size w w' := by
  unfold bestV
  by_cases h : FiltR 0 row above unit
  · rw [if_pos h, decide_eq_true h]
    obtain ⟨u, hu⟩ : ∃ u : Nat, unit = (u : Int) := ⟨unit.toNat, by have := h.2.1; omega⟩
    subst hu
    exact specBestF_in row above u w h
  · rw [if_neg h, decide_eq_false h]
    have hno := fun W => specFilter_out 0 row above unit W h h1
    clear h
    go_enter Try.func30, Try.ntmps30
    go_wp2_with fail
    go_loopg [8, 9, 10] 1 (fun _ b m i w' => b = .int .i64 0 ∧ m = .int .i64 (-1) ∧ i = .int .i64 0 ∧ w' = w)
    case atStart => exact ⟨rfl, rfl, rfl, rfl⟩
    case round =>
      obtain ⟨rfl, rfl, rfl, rfl⟩ := hrel
      go_wp2_with fail
      refine (hno _).mono ?_
      rintro e w1 ⟨rfl, rfl⟩
      go_wp2_with fail
      refine bodyPost_ret (v := .tuple #[.int .i64 0, .bool false]) ?_ rfl ⟨rfl, Below.refl _ _⟩
      simp [results, Try.results30, go_sem]
end Go.Proofs.Ytholkigomokimaa
