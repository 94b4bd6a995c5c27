/-
  The walk of the document's model of what a token costs.
-/
import Derived.Test.YtihcapfdpgaeiaaRows
import Derived.Test.YtihcapfdpgaeiaaBase
import Derived.Test.YtihcapfdpgaeiaaRetLib
import Derived.Test.YtihcapfdpgaeiaaTokMath
import Derived.Test.YtihcapfdpgaeiaaStepMath
import Derived.Test.YtihcapfdpgaeiaaCheapMath
import Derived.Test.YtihcapfdpgaeiaaLenCodeSpec
import Derived.Test.YtihcapfdpgaeiaaDistCodeSpec
import Derived.WalkKit
import Derived.ProofKit
import Derived.WalkLawsBesides
import Derived.Below
import Derived.Sort.Grow
import Derived.Lib.SmallJoins
namespace Go.Proofs.Ytihcapfdpgaeiaa
open Go.RowKit Go.Joins Go.Sort TokMath StepMath CheapMath

theorem code_range (y : Int) : (0 ≤ (LengthCodeOf y).1 ∧ (LengthCodeOf y).1 ≤ 285) ∧ 0 ≤ (LengthCodeOf y).2.1 ∧ (LengthCodeOf y).2.1 ≤ 5 := by
  by_cases h : 3 ≤ y ∧ y ≤ 258
  · have := len_back h.1 h.2
    exact ⟨⟨by omega, this.2.2.2.2.1⟩, this.2.2.2.2.2.1, this.2.2.2.2.2.2⟩
  · unfold LengthCodeOf
    rw [if_neg h]
    exact ⟨⟨by show (0 : Int) ≤ 0; omega, by show (0 : Int) ≤ 285; omega⟩, by show (0 : Int) ≤ 0; omega, by show (0 : Int) ≤ 5; omega⟩
theorem dcode_range (z : Int) : 0 ≤ (DistCodeOf z).2.1 ∧ (DistCodeOf z).2.1 ≤ 13 := by
  by_cases h : 1 ≤ z ∧ z ≤ 32768
  · have := dist_back h.1 h.2
    exact ⟨this.2.2.2.2.2.1, this.2.2.2.2.2.2⟩
  · unfold DistCodeOf
    rw [if_neg h]
    exact ⟨by show (0 : Int) ≤ 0; omega, by show (0 : Int) ≤ 13; omega⟩
set_option maxHeartbeats 1600000 in
theorem specCost7 (x y z : Int) (w : World) :
    Calls Try.prog 45 #[.agg #[.int .i64 x, .int .i64 y, .int .i64 z]] w fun e w' => e = .returned (.int .i64 (costT (x, y, z))) ∧ ∃ k os', w' = grow (w.drewN k) os' := by
  have HG : Hid (∃ k os', w.alloc (.cells #[.int .i64 x, .int .i64 y, .int .i64 z] 51) = grow (w.drewN k) os') := ⟨0, _, by rw [alloc_eq_grow]; rfl⟩
  by_cases hy : y = 0
  · subst hy
    by_cases hx : x < 144
    · have e : costT (x, 0, z) = 8 := by
        rw [cost_byte, if_pos hx]
      have d : decide (x < 144) = true := decide_eq_true hx
      rw [e]
      go_enter Try.func45, Try.ntmps45
      go_wp2_with fail
      go_ret
      exact ⟨rfl, HG.out⟩
    · have e : costT (x, 0, z) = 9 := by
        rw [cost_byte, if_neg hx]
      have d : decide (x < 144) = false := decide_eq_false hx
      rw [e]
      go_enter Try.func45, Try.ntmps45
      go_wp2_with fail
      go_ret
      exact ⟨rfl, HG.out⟩
  · have dy : (y == 0) = false := by simp; omega
    have hl := fun w => specLenCode y w
    have hd := fun w => specDistCode z w
    have e : costT (x, y, z) = (if (LengthCodeOf y).1 < 280 then 7 else 8) + (LengthCodeOf y).2.1 + 5 + (DistCodeOf z).2.1 := by
      unfold costT
      rw [if_neg hy]
    have r1 := code_range y
    have r2 := dcode_range z
    rw [e]
    clear e
    generalize (LengthCodeOf y).1 = s at *
    generalize (LengthCodeOf y).2.1 = b at *
    generalize (LengthCodeOf y).2.2 = q at *
    generalize (DistCodeOf z).1 = s2 at *
    generalize (DistCodeOf z).2.1 = m at *
    generalize (DistCodeOf z).2.2 = q2 at *
    obtain ⟨⟨r3, r4⟩, r5, r6⟩ := r1
    obtain ⟨r7, r8⟩ := r2
    by_cases h8 : s < 280
    · have d : decide (s < 280) = true := decide_eq_true h8
      rw [if_pos h8]
      go_enter Try.func45, Try.ntmps45
      go_wp2_with fail
      refine (hl _).mono ?_
      rintro e w1 ⟨rfl, rfl⟩
      go_wp2_with fail
      refine (hd _).mono ?_
      rintro e w2 ⟨rfl, rfl⟩
      clear hl hd
      go_wp2_with fail
      go_ret
      exact ⟨ret_i (by omega), HG.out⟩
    · have d : decide (s < 280) = false := decide_eq_false h8
      rw [if_neg h8]
      go_enter Try.func45, Try.ntmps45
      go_wp2_with fail
      refine (hl _).mono ?_
      rintro e w1 ⟨rfl, rfl⟩
      go_wp2_with fail
      refine (hd _).mono ?_
      rintro e w2 ⟨rfl, rfl⟩
      clear hl hd
      go_wp2_with fail
      go_ret
      exact ⟨ret_i (by omega), HG.out⟩

end Go.Proofs.Ytihcapfdpgaeiaa
