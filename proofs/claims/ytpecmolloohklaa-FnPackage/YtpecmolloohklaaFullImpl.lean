/-
  The walk of what the program's counts of lengths are full to.
-/
import Derived.Test.YtpecmolloohklaaRows
import Derived.Test.YtpecmolloohklaaBase
import Derived.Test.YtpecmolloohklaaOutMath
import Derived.Test.YtpecmolloohklaaCodeMath
import Derived.Test.YtpecmolloohklaaFullMath
import Derived.Test.YtpecmolloohklaaSixLib
import Derived.WalkKit
import Derived.ProofKit
import Derived.WalkLawsBesides
import Derived.Lib.SmallJoins
namespace Go.Proofs.Ytpecmolloohklaa
open Go.RowKit Go.Joins OutMath CodeMath

theorem six_index (g : Nat → Int) (k : Nat) (hk : k < 16) (w : World) : (Instr.index 68 (.agg (six g)) (.int .i64 (k : Int))).run Try.prog w = .ok (.int .i64 (g k)) w := by
  have h : (0 : Int) ≤ k ∧ (k : Int) < 16 := by omega
  have e : (fints g 16)[k]? = some (.int .i64 (g k)) := by
    rw [List.getElem?_eq_getElem (by rw [fints_length]; exact hk), fints_get]
  show (Instr.index 68 (.agg (fints g 16).toArray) (.int .i64 (k : Int))).run Try.prog w = _
  simp [Instr.index, run_underlying Try.underlying68, asIntOf, go_sem, hk, e]

set_option maxHeartbeats 800000 in
theorem fullTo_any (g : Nat → Int) (w : World) (hg : ∀ s, 0 ≤ g s ∧ g s ≤ 288) :
    Calls Try.prog 43 #[.agg (six g)] w fun e w' => e = .returned (.int .i64 (fullS g 16)) ∧ Below w.heap.size w w' := by
  have HG : Hid (∀ s, 0 ≤ g s ∧ g s ≤ 288) := hg
  clear hg
  go_enter Try.func43, Try.ntmps43
  go_wp2_with fail
  go_loop [3, 7] (fun x i => ∃ j : Nat, j ≤ 16 ∧ i = .int .i64 j ∧ x = .int .i64 (fullS g j)) (fun _ i => 16 - (intOf i).toNat)
  case atStart => exact ⟨0, Nat.zero_le _, rfl, rfl⟩
  case round =>
    obtain ⟨j, hj, rfl, rfl⟩ := hrel
    have hb := fullS_bd g HG.out j
    by_cases hlt : j < 16
    · have hix := fun w => six_index g j hlt w
      have hp := shl_part g HG.out j
      have hgj := HG.out j
      have HR : Hid (fullS g (j + 1) = fullS g j + g j * p2 (15 - j)) := rfl
      have e15 : ((15 : Int) - (j : Int)).toNat = 15 - j := by omega
      have HW : Hid (wrap64 (fullS g j + wrap64 (g j * 2 ^ (15 - j))) = fullS g (j + 1)) := by
        show wrap64 (fullS g j + wrap64 (g j * p2 (15 - j))) = fullS g j + g j * p2 (15 - j)
        unfold wrap64
        omega
      go_wp2_with fail
      go_round
      case rel => exact ⟨j + 1, by omega, by go_num, by rw [HW.out]⟩
      case measure => simp [intOf]; omega
    · obtain rfl : j = 16 := by omega
      go_wp2_with fail
      go_ret
      exact ⟨rfl, bstart _ _⟩

end Go.Proofs.Ytpecmolloohklaa
