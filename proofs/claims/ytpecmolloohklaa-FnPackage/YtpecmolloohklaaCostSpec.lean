/-
  The walk of the document's model of what counted symbols cost.
-/
import Derived.Test.YtpecmolloohklaaRows
import Derived.Test.YtpecmolloohklaaBase
import Derived.Test.YtpecmolloohklaaOutMath
import Derived.Test.YtpecmolloohklaaCodeMath
import Derived.Test.YtpecmolloohklaaInWalks
import Derived.Test.YtpecmolloohklaaCostPost
import Derived.Test.YtpecmolloohklaaOwnLib
import Derived.Test.YtpecmolloohklaaIntsLib
import Derived.Test.YtpecmolloohklaaCodeSpec
import Derived.WalkKit
import Derived.ProofKit
import Derived.WalkLawsBesides
import Derived.RegionTactic
import Derived.Lib.SmallJoins
namespace Go.Proofs.Ytpecmolloohklaa
open Go.RowKit Go.Joins OutMath CodeMath

set_option maxHeartbeats 800000 in
theorem specCost (a1 a2 : Option Addr) (n m c1 c2 : Nat) (f c : Nat → Int) (w : World) (h1 : Came w a1 n f) (h2 : Came w a2 m c) (hn : n ≤ 1048576) (hm : m ≤ 1048576) (hw : ∀ i, i < m → (Lit.int .i64 (c i)).wf = true) :
    Calls Try.prog 14 #[.slice a1 n c1, .slice a2 m c2] w (CostPost f c n m w) := by
  have HF : Hid (Came w a1 n f) := h1
  have HC : Hid (Came w a2 m c) := h2
  have HW : Hid (∀ i, i < m → (Lit.int .i64 (c i)).wf = true) := hw
  clear h1 h2 hw
  go_enter Try.func14, Try.ntmps14
  go_wp2_with fail
  refine (specKind a1 n c1 f w HF.out hn).mono ?_
  rintro e w1 ⟨k, rfl, hk, hw⟩
  obtain rfl : w = w1 := hw.symm
  clear hw
  by_cases k0 : k = 0
  · subst k0
    have HN : Hid (¬ CostRight f c n m) := fun h => by
      rcases hk with ⟨_, hk⟩ | ⟨_, _, hk⟩
      · exact hk ⟨h.2.1, h.2.2.1⟩
      · have := kindOf_bd f n; omega
    clear hk
    go_wp2_with fail
    go_ret2
    exact CostPost.no HN.out (Below.refl _ _)
  · have d0 : (k == 0) = false := by simpa using k0
    obtain ⟨hr, hok⟩ : n ≤ 288 ∧ OkLens f n := by
      rcases hk with ⟨hk, _⟩ | ⟨h1, h2, _⟩
      · exact absurd hk k0
      · exact ⟨h1, h2⟩
    have HK : Hid (OkLens f n) := hok
    clear hk k0 hok
    by_cases hnm : n = m
    · subst hnm
      go_wp2_with fail
      go_loopw [6, 7] (fun x i w' => ∃ j : Nat, j ≤ n ∧ i = .int .i64 j ∧ x = .int .i64 (cost f c j) ∧ Hid (∀ i, i < j → CountOk f c i) ∧ Hid (Below w.heap.size w w')) (fun _ i _ => n - (intOf i).toNat)
      case atStart => exact ⟨0, by omega, rfl, rfl, fun i hi => absurd hi (Nat.not_lt_zero i), Below.refl _ _⟩
      case round =>
        obtain ⟨j, hj, rfl, rfl, hcs, hB⟩ := hrel
        by_cases hlt : j < n
        · rcases HF.out with h0 | ⟨g, off, rfl, hg, hc⟩
          · omega
          · rcases HC.out with h0 | ⟨g', off', rfl, hg', hc'⟩
            · omega
            · have k0 : wr.cell? ⟨g, off + j, none⟩ = some (.int .i64 (f j)) := (hB.out.cell (p := ⟨g, off + j, none⟩) hg).trans (hc j hlt)
              have k1 : wr.cell? ⟨g', off' + j, none⟩ = some (.int .i64 (c j)) := (hB.out.cell (p := ⟨g', off' + j, none⟩) hg').trans (hc' j hlt)
              have l0 : g < wr.heap.size := Nat.lt_of_lt_of_le hg hB.out.size
              have l1 : g' < wr.heap.size := Nat.lt_of_lt_of_le hg' hB.out.size
              have hcb := cost_bd f c j (fun i hi => HK.out i (by omega)) hcs.out
              have hfj := HK.out j hlt
              clear hc hc'
              by_cases hin : 0 ≤ c j ∧ c j ≤ 12000
              · have hin' := hin
                obtain ⟨i0, i1⟩ := hin'
                by_cases hz : 0 < c j ∧ f j = 0
                · have HN : Hid (¬ CostRight f c n n) := fun h => (h.2.2.2 j hlt).2.2 hz
                  have d1 : decide (0 < c j) = true := by simpa using hz.1
                  have d2 : (f j == 0) = true := by simpa using hz.2
                  clear hz hin
                  go_wp2_with fail
                  refine (in_yes _ _ _ _ i0 i1).mono ?_
                  rintro e w1 ⟨rfl, rfl⟩
                  go_wp2_with fail
                  go_ret2
                  exact CostPost.no HN.out hB.out
                · have HK1 : Hid (∀ i, i < j + 1 → CountOk f c i) := fun i hi => by
                    by_cases e : i = j
                    · rw [e]; exact ⟨i0, i1, hz⟩
                    · exact hcs.out i (by omega)
                  have hm0 : 0 ≤ c j * f j := Int.mul_nonneg i0 hfj.1
                  have hm1 : c j * f j ≤ 12000 * f j := Int.mul_le_mul_of_nonneg_right i1 hfj.1
                  have HX : Hid (cost f c (j + 1) = cost f c j + c j * f j) := rfl
                  have e1 : Go.RowKit.wrap64 (c j * f j) = c j * f j := by unfold Go.RowKit.wrap64; omega
                  have e2 : IntKind.i64.wrap (c j * f j) = c j * f j := by rw [IntKind.wrap_i64]; omega
                  have e3 : IntKind.i64.wrap (cost f c j + c j * f j) = cost f c j + c j * f j := by rw [IntKind.wrap_i64]; omega
                  have HD : Hid (c j ≤ 0 ∨ f j ≠ 0) := by
                    show c j ≤ 0 ∨ f j ≠ 0
                    omega
                  clear hz hin
                  go_wp2_with fail
                  refine (in_yes _ _ _ _ i0 i1).mono ?_
                  rintro e w1 ⟨rfl, rfl⟩
                  by_cases q1 : 0 < c j
                  · have d1 : decide (0 < c j) = true := by simpa using q1
                    have d2 : (f j == 0) = false := by have := HD.out; simp; omega
                    go_wp2_with fail
                    go_region
                    all_goals
                      go_wp2_with fail
                      go_roundw
                      case rel => exact ⟨j + 1, by omega, by go_num, by rw [HX.out], HK1, hB.out.drew⟩
                      case measure => simp [intOf]; omega
                  · have d1 : decide (0 < c j) = false := by simpa using q1
                    go_wp2_with fail
                    go_region
                    all_goals
                      go_wp2_with fail
                      go_roundw
                      case rel => exact ⟨j + 1, by omega, by go_num, by rw [HX.out], HK1, hB.out.drew⟩
                      case measure => simp [intOf]; omega
              · have HN : Hid (¬ CostRight f c n n) := fun h => hin ⟨(h.2.2.2 j hlt).1, (h.2.2.2 j hlt).2.1⟩
                have HI : Hid (¬ (0 ≤ c j ∧ c j ≤ 12000)) := hin
                clear hin
                go_wp2_with fail
                refine (in_no _ _ _ _ HI.out).mono ?_
                rintro e w1 ⟨rfl, rfl⟩
                go_wp2_with fail
                go_ret2
                exact CostPost.no HN.out hB.out
        · obtain rfl : j = n := by omega
          go_wp2_with fail
          go_ret2
          exact CostPost.yes ⟨rfl, hr, HK.out, hcs.out⟩ hB.out
    · have HN : Hid (¬ CostRight f c n m) := fun h => hnm h.1
      have d1 : ((m : Int) != (n : Int)) = true := by simp; omega
      clear hnm
      go_wp2_with fail
      go_ret2
      exact CostPost.no HN.out (Below.refl _ _)

end Go.Proofs.Ytpecmolloohklaa
