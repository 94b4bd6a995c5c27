/-
  The walk of the document's model of a big number's bytes.
  The walk of ReadBig in the document's model.
  An operation of a region that is wanted.
-/
import Derived.Test.YtcnlcbkgbcnloaaRows
import Derived.Test.YtcnlcbkgbcnloaaHk01
import Derived.Test.YtcnlcbkgbcnloaaHk04
import Derived.Test.YtcnlcbkgbcnloaaHk05
import Derived.Test.YtcnlcbkgbcnloaaHk06
import Derived.WalkKit
import Derived.ProofKit
import Derived.WalkLawsBesides
import Derived.Laws.MakeOwn
import Derived.LoopN
import Derived.Below
import Derived.Lib.SmallJoins
namespace Go.Proofs.Ytcnlcbkgbcnloaa
open Go.RowKit Go.Joins OutMath BigTextMath

theorem ret_sb {a b : List Int} {c : Bool} (h : a = b) : Ending.returned (.tuple #[.string (strOfNums a), .bool c]) = .returned (.tuple #[.string (strOfNums b), .bool c]) := by rw [h]

theorem conv1 (x : Int) (w : World) : (convert 22 9 (.slice (some ⟨w.heap.size, 0, none⟩) 1 1)).run Try.prog (w.alloc (.cells #[.int .u8 x] 5)) = .ok (.string (strOfNums [x])) (w.alloc (.cells #[.int .u8 x] 5)) := by
  refine run_convert_bytes_arg _ 22 5 Try.underlying22 Try.underlying5 w.heap.size 0 1 1 [x] rfl ?_ 9 Try.underlying9
  intro i hi
  obtain rfl : i = 0 := by omega
  simp

set_option maxHeartbeats 400000 in
theorem l01Big_any (n : Int) (k : Nat) (w : World) (h0 : 0 ≤ n) (h1 : n ≤ 9223372036854775807) (h4 : k ≤ 4) :
    Calls Try.prog 52 #[.int .i64 n, .int .i64 k] w fun e w' => e = .returned (.string (strOfNums (low n k))) ∧ Below w.heap.size w w' := by
  go_enter Try.func52, Try.ntmps52
  go_wp2
  go_loopw [0, 5, 6] (fun x s i w' => ∃ j : Nat, j ≤ k ∧ i = .int .i64 j ∧ x = .int .i64 (n / q256 j) ∧ s = .string (strOfNums (low n j)) ∧ Below w.heap.size w w') (fun _ _ i _ => k - (intOf i).toNat)
  case atStart => exact ⟨0, Nat.zero_le _, rfl, by simp [q256], rfl, Below.refl _ _⟩
  case round =>
    obtain ⟨j, hj, rfl, rfl, rfl, hb⟩ := hrel
    have n0 := div_nonneg n h0 j
    have n1 := div_le n h0 j
    have HD : Hid (n / q256 j / 256 = n / q256 (j + 1)) := div_succ n j
    have HL : Hid (strOfNums [n / q256 j % 256] ++ strOfNums (low n j) = strOfNums (low n (j + 1))) := strOfNums_cons _ _
    have z1 : (strOfNums [n / q256 j % 256]).size = 1 := strOfNums_size _
    have z2 : (strOfNums (low n j)).size = j := (strOfNums_size _).trans (low_length n j)
    have kc := conv1 (n / q256 j % 256)
    by_cases hlt : j < k
    · go_wp2
      go_roundw
      case rel => exact ⟨j + 1, by omega, by go_num, by rw [HD.out], by rw [HL.out], bal hb _⟩
      case measure => simp [intOf]; omega
    · go_wp2
      go_ret
      obtain rfl : j = k := by omega
      exact ⟨rfl, hb⟩

end Go.Proofs.Ytcnlcbkgbcnloaa

namespace Go.Proofs.Ytcnlcbkgbcnloaa
open Go.RowKit BigMath

theorem ret_pair {a b : Int} {c : Bool} (h : a = b) : Ending.returned (.tuple #[.int .i64 a, .bool c]) = .returned (.tuple #[.int .i64 b, .bool c]) := by rw [h]

end Go.Proofs.Ytcnlcbkgbcnloaa

namespace Go.Proofs.Ytcnlcbkgbcnloaa
theorem if_wanted {c A E : Prop} [Decidable c] (hc : c) (h : A) : if c then A else E := by rw [if_pos hc]; exact h
theorem wanted_none {o : Oper} {y : Nat → Option Bool} (h : o.guard = none) : Region.wanted o y = true := by simp [Region.wanted, h]
end Go.Proofs.Ytcnlcbkgbcnloaa
