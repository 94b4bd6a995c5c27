/-
  The walk of the program's CostOf.
-/
import Derived.Test.YtpecmolloohklaaRows
import Derived.Test.YtpecmolloohklaaBase
import Derived.Test.YtpecmolloohklaaOutMath
import Derived.Test.YtpecmolloohklaaCodeMath
import Derived.Test.YtpecmolloohklaaCostPost
import Derived.Test.YtpecmolloohklaaCostAns
import Derived.Test.YtpecmolloohklaaKindAns
import Derived.Test.YtpecmolloohklaaKindImpl
import Derived.Test.YtpecmolloohklaaHasImpl
import Derived.Test.YtpecmolloohklaaOwnLib
import Derived.Test.YtpecmolloohklaaIntsLib
import Derived.WalkKit
import Derived.ProofKit
import Derived.WalkLawsBesides
import Derived.Deep.QuietTactic
import Derived.RegionTactic
import Derived.Lib.SmallJoins
namespace Go.Proofs.Ytpecmolloohklaa
open Go.RowKit Go.Joins OutMath CodeMath

set_option maxHeartbeats 800000 in
theorem cost_answer : CostAnswer := by
  intro a1 a2 n m c1 c2 f c w h1 h2 hn hm hwf hw
  have HF : Hid (Came w a1 n f) := h1
  have HC : Hid (Came w a2 m c) := h2
  have HW : Hid (∀ i, i < n → (Lit.int .i64 (f i)).wf = true) := hwf
  clear h1 h2 hw hwf
  go_enter Try.func11, Try.ntmps11
  go_wp2_with fail
  refine (kind_answer a1 n c1 f w HF.out hn HW.out).mono ?_
  rintro e w1 ⟨k, rfl, hk, hb1⟩
  have HB1 : Hid (Below w.heap.size w w1) := hb1
  clear hb1
  by_cases k0 : k = 0
  · subst k0
    have HN : Hid (¬ CostRight f c n m) := fun h => by
      rcases hk with ⟨_, hk⟩ | ⟨_, _, hk⟩
      · exact hk ⟨h.2.1, h.2.2.1⟩
      · have := kindOf_bd f n; omega
    clear hk
    go_wp2_with fail
    go_ret2
    exact CostPost.no HN.out HB1.out
  · have d0 : (k == 0) = false := by simpa using k0
    obtain ⟨hr, hok⟩ : n ≤ 288 ∧ OkLens f n := by
      rcases hk with ⟨hk, _⟩ | ⟨h1, h2, _⟩
      · exact absurd hk k0
      · exact ⟨h1, h2⟩
    have HK : Hid (OkLens f n) := hok
    clear hk k0 hok
    by_cases hnm : n = m
    · subst hnm
      have dn : ((n : Int) != (n : Int)) = false := by simp
      go_wp2_with fail
      go_loopw [6, 21] (fun x i w' => ∃ j : Nat, j ≤ n ∧ i = .int .i64 j ∧ x = .int .i64 (cost f c j) ∧ Hid (∀ i, i < j → CountOk f c i) ∧ Hid (Below w.heap.size w w')) (fun _ i _ => n - (intOf i).toNat)
      case atStart => exact ⟨0, by omega, rfl, rfl, fun i hi => absurd hi (Nat.not_lt_zero i), HB1⟩
      case round =>
        clear HB1
        obtain ⟨j, hj, rfl, rfl, hcs, hB⟩ := hrel
        have HF1 : Hid (Came wr a1 n f) := HF.out.called hB.out
        by_cases hlt : j < n
        · rcases HF.out with h0 | ⟨g, off, rfl, hg, hc⟩
          · omega
          · rcases HC.out with h0 | ⟨g', off', rfl, hg', hc'⟩
            · omega
            · have k0 : wr.cell? ⟨g, off + j, none⟩ = some (.int .i64 (f j)) := (hB.out.cell (p := ⟨g, off + j, none⟩) hg).trans (hc j hlt)
              have k1 : wr.cell? ⟨g', off' + j, none⟩ = some (.int .i64 (c j)) := (hB.out.cell (p := ⟨g', off' + j, none⟩) hg').trans (hc' j hlt)
              have l0 : g < wr.heap.size := Nat.lt_of_lt_of_le hg hB.out.size
              have l1 : g' < wr.heap.size := Nat.lt_of_lt_of_le hg' hB.out.size
              have hcb := cost_bd f c j (fun i hi => HK.out i (by omega)) hcs.out
              have hfj := HK.out j hlt
              clear hc hc'
              by_cases hin : 0 ≤ c j ∧ c j ≤ 12000
              · have hin' := hin
                obtain ⟨i0, i1⟩ := hin'
                have p0 : decide (c j < 0) = false := by simp; omega
                have p1 : decide (12000 < c j) = false := by simp; omega
                by_cases hz : 0 < c j ∧ f j = 0
                · have HN : Hid (¬ CostRight f c n n) := fun h => (h.2.2.2 j hlt).2.2 hz
                  have d1 : decide (0 < c j) = true := by simpa using hz.1
                  have HZ : Hid (f j = 0) := hz.2
                  clear hz hin
                  go_wp2_with fail
                  refine (has_no _ n c1 f _ _ HF1.out (fun q => by have q3 := q.2.2; rw [Int.toNat_natCast, HZ.out] at q3; omega)).mono ?_
                  rintro e w1 ⟨rfl, rfl⟩
                  go_wp2_with fail
                  go_ret2
                  exact CostPost.no HN.out hB.out
                · have HK1 : Hid (∀ i, i < j + 1 → CountOk f c i) := fun i hi => by
                    by_cases e : i = j
                    · rw [e]; exact ⟨i0, i1, hz⟩
                    · exact hcs.out i (by omega)
                  have hm0 : 0 ≤ c j * f j := Int.mul_nonneg i0 hfj.1
                  have hm1 : c j * f j ≤ 12000 * f j := Int.mul_le_mul_of_nonneg_right i1 hfj.1
                  have HX : Hid (cost f c (j + 1) = cost f c j + c j * f j) := rfl
                  have e1 : Go.RowKit.wrap64 (c j * f j) = c j * f j := by unfold Go.RowKit.wrap64; omega
                  have HD : Hid (c j ≤ 0 ∨ f j ≠ 0) := by
                    show c j ≤ 0 ∨ f j ≠ 0
                    omega
                  clear hz hin
                  by_cases q1 : 0 < c j
                  · have d1 : decide (0 < c j) = true := by simpa using q1
                    go_wp2_with fail
                    refine (has_yes _ n c1 f j _ HF1.out hlt (by have := HD.out; omega)).mono ?_
                    rintro e w1 ⟨rfl, rfl⟩
                    go_wp2_with fail
                    go_roundw
                    case rel => exact ⟨j + 1, by omega, by go_num, by rw [HX.out], HK1, hB⟩
                    case measure => simp [intOf]; omega
                  · have d1 : decide (0 < c j) = false := by simpa using q1
                    go_wp2_with fail
                    go_roundw
                    case rel => exact ⟨j + 1, by omega, by go_num, by rw [HX.out], HK1, hB⟩
                    case measure => simp [intOf]; omega
              · have HN : Hid (¬ CostRight f c n n) := fun h => hin ⟨(h.2.2.2 j hlt).1, (h.2.2.2 j hlt).2.1⟩
                by_cases p0 : c j < 0
                · have d0 : decide (c j < 0) = true := by simpa using p0
                  clear hin
                  go_wp2_with fail
                  go_ret2
                  exact CostPost.no HN.out hB.out
                · have d0 : decide (c j < 0) = false := by simpa using p0
                  have d1 : decide (12000 < c j) = true := by simp; omega
                  clear hin
                  go_wp2_with fail
                  go_ret2
                  exact CostPost.no HN.out hB.out
        · obtain rfl : j = n := by omega
          go_wp2_with fail
          go_ret2
          exact CostPost.yes ⟨rfl, hr, HK.out, hcs.out⟩ hB.out
    · have HN : Hid (¬ CostRight f c n m) := fun h => hnm h.1
      have d1 : ((n : Int) != (m : Int)) = true := by simp; omega
      clear hnm
      go_wp2_with fail
      go_ret2
      exact CostPost.no HN.out HB1.out

end Go.Proofs.Ytpecmolloohklaa
