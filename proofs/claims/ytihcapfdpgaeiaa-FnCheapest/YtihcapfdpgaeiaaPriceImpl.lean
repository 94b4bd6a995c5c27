/-
  The walks of the program's cost of a token, and of how many bytes it makes.
-/
import Derived.Test.YtihcapfdpgaeiaaRows
import Derived.Test.YtihcapfdpgaeiaaBase
import Derived.Test.YtihcapfdpgaeiaaRetLib
import Derived.Test.YtihcapfdpgaeiaaTokMath
import Derived.Test.YtihcapfdpgaeiaaStepMath
import Derived.Test.YtihcapfdpgaeiaaCheapMath
import Derived.Test.YtihcapfdpgaeiaaPriceSpec
import Derived.Test.YtihcapfdpgaeiaaLenCodeImpl
import Derived.Test.YtihcapfdpgaeiaaDistCodeImpl
import Derived.WalkKit
import Derived.ProofKit
import Derived.WalkLawsBesides
import Derived.Below
import Derived.Lib.SmallJoins
namespace Go.Proofs.Ytihcapfdpgaeiaa
open Go.RowKit Go.Joins TokMath StepMath CheapMath

theorem dearer_any (c : Int) (b : Bool) (w : World) (h0 : 0 ≤ c) (h1 : c ≤ 100) : Calls Try.prog 55 #[.int .i64 c, .bool b] w fun e w' => e = .returned (.int .i64 (if b then c + 1 else c)) ∧ w' = w := by
  cases b
  · go_enter Try.func55, Try.ntmps55
    go_wp2_with fail
    go_ret
    exact ⟨rfl, rfl⟩
  · go_enter Try.func55, Try.ntmps55
    go_wp2_with fail
    go_ret
    exact ⟨rfl, rfl⟩

set_option maxHeartbeats 1600000 in
theorem price_any (x y z : Int) (w : World) (wy : (Lit.int .i64 y).wf = true) (wz : (Lit.int .i64 z).wf = true) :
    Calls Try.prog 40 #[.agg #[.int .i64 x, .int .i64 y, .int .i64 z]] w fun e w' => e = .returned (.int .i64 (costT (x, y, z))) ∧ Below w.heap.size w w' := by
  have HG : Hid (Below w.heap.size w (w.alloc (.cells #[.int .i64 x, .int .i64 y, .int .i64 z] 51))) := bstart _ _
  by_cases hy : y = 0
  · subst hy
    clear wy wz
    have hd := fun b w => dearer_any 8 b w (by omega) (by omega)
    by_cases hx : x < 144
    · have e : costT (x, 0, z) = 8 := by
        rw [cost_byte, if_pos hx]
      have d : decide (144 ≤ x) = false := decide_eq_false (by omega)
      rw [e]
      go_enter Try.func40, Try.ntmps40
      go_wp2_with fail
      refine (hd _ _).mono ?_
      rintro e w1 ⟨rfl, rfl⟩
      clear hd
      go_wp2_with fail
      go_ret
      exact ⟨rfl, HG.out⟩
    · have e : costT (x, 0, z) = 9 := by
        rw [cost_byte, if_neg hx]
      have d : decide (144 ≤ x) = true := decide_eq_true (by omega)
      rw [e]
      go_enter Try.func40, Try.ntmps40
      go_wp2_with fail
      refine (hd _ _).mono ?_
      rintro e w1 ⟨rfl, rfl⟩
      clear hd
      go_wp2_with fail
      go_ret
      exact ⟨rfl, HG.out⟩
  · have dy : (y == 0) = false := by simp; omega
    have hl := fun w => lengthCode_answer y w wy
    have hd := fun w => distCode_answer z w wz
    have hdr := fun b w => dearer_any 7 b w (by omega) (by omega)
    have e : costT (x, y, z) = (if (LengthCodeOf y).1 < 280 then 7 else 8) + (LengthCodeOf y).2.1 + 5 + (DistCodeOf z).2.1 := by
      unfold costT
      rw [if_neg hy]
    have r1 := code_range y
    have r2 := dcode_range z
    rw [e]
    clear e wy wz
    generalize (LengthCodeOf y).1 = s at *
    generalize (LengthCodeOf y).2.1 = b at *
    generalize (LengthCodeOf y).2.2 = q at *
    generalize (DistCodeOf z).1 = s2 at *
    generalize (DistCodeOf z).2.1 = m at *
    generalize (DistCodeOf z).2.2 = q2 at *
    obtain ⟨⟨r3, r4⟩, r5, r6⟩ := r1
    obtain ⟨r7, r8⟩ := r2
    by_cases h8 : s < 280
    · have d : decide (280 ≤ s) = false := decide_eq_false (by omega)
      rw [if_pos h8]
      go_enter Try.func40, Try.ntmps40
      go_wp2_with fail
      refine (hl _).mono ?_
      rintro e w1 ⟨rfl, hB1⟩
      have f2 : w1.cell? ⟨w.heap.size, 2, none⟩ = some (.int .i64 z) := (hB1.cell (p := ⟨w.heap.size, 2, none⟩) (by simp)).trans (by simp)
      have HB1 := hid_of (bnext HG.out hB1)
      clear hB1
      go_wp2_with fail
      refine (hd _).mono ?_
      rintro e w2 ⟨rfl, hB2⟩
      have HB2 := hid_of (bnext HB1.out hB2)
      clear hl hd hB2
      go_wp2_with fail
      refine (hdr _ _).mono ?_
      rintro e w3 ⟨rfl, rfl⟩
      clear hdr
      go_wp2_with fail
      go_ret
      exact ⟨ret_i (by omega), HB2.out⟩
    · have d : decide (280 ≤ s) = true := decide_eq_true (by omega)
      rw [if_neg h8]
      go_enter Try.func40, Try.ntmps40
      go_wp2_with fail
      refine (hl _).mono ?_
      rintro e w1 ⟨rfl, hB1⟩
      have f2 : w1.cell? ⟨w.heap.size, 2, none⟩ = some (.int .i64 z) := (hB1.cell (p := ⟨w.heap.size, 2, none⟩) (by simp)).trans (by simp)
      have HB1 := hid_of (bnext HG.out hB1)
      clear hB1
      go_wp2_with fail
      refine (hd _).mono ?_
      rintro e w2 ⟨rfl, hB2⟩
      have HB2 := hid_of (bnext HB1.out hB2)
      clear hl hd hB2
      go_wp2_with fail
      refine (hdr _ _).mono ?_
      rintro e w3 ⟨rfl, rfl⟩
      clear hdr
      go_wp2_with fail
      go_ret
      exact ⟨ret_i (by omega), HB2.out⟩

end Go.Proofs.Ytihcapfdpgaeiaa
