/-
  What is handed back, by its number. Nothing here speaks of the program.
  The walk of the model's powers of two.
  The walk of the program's test of a size.
  The walks of BigText, in the document's model and in the program.
  The walks of ReadBig in the program.
  The walk of the program's HeadOk.
-/
import Derived.Test.YtcnlcbkgbcnloaaRows
import Derived.Test.YtcnlcbkgbcnloaaHk04
import Derived.Test.YtcnlcbkgbcnloaaHk01
import Derived.Test.YtcnlcbkgbcnloaaHk06
import Derived.Test.YtcnlcbkgbcnloaaHk05
import Derived.Test.YtcnlcbkgbcnloaaHk08
import Derived.Test.YtcnlcbkgbcnloaaHk10
import Derived.WalkKit
import Derived.ProofKit
import Derived.WalkLawsBesides
import Derived.Deep.QuietTactic
import Derived.BigQuiet
import Derived.Lib.SmallJoins
import Derived.Laws.MakeOwn
import Derived.LoopN
import Derived.Below
namespace Go.Proofs.Ytcnlcbkgbcnloaa
open Go.RowKit

theorem ret_i {k : IntKind} {a b : Int} (h : a = b) : Ending.returned (.int k a) = .returned (.int k b) := by rw [h]
end Go.Proofs.Ytcnlcbkgbcnloaa

namespace Go.Proofs.Ytcnlcbkgbcnloaa
open Go.RowKit Go.Joins OutMath

set_option maxHeartbeats 400000 in
theorem pow_any (n : Nat) (w : World) (h : n ≤ 61) :
    Calls Try.prog 68 #[.int .i64 n] w fun e w' => e = .returned (.int .i64 (p2 n)) ∧ w' = w := by
  go_enter Try.func68, Try.ntmps68
  go_wp2
  go_loop [3, 4] (fun x i => ∃ j : Nat, j ≤ n ∧ i = .int .i64 j ∧ x = .int .i64 (p2 j)) (fun _ i => n - (intOf i).toNat)
  case atStart => exact ⟨0, Nat.zero_le _, rfl, by rw [p2_zero]⟩
  case round =>
    obtain ⟨j, hj, rfl, rfl⟩ := hrel
    have hp := p2_pos j
    have hq := p2_61 (n := j) (by omega)
    by_cases hlt : j < n
    · go_wp2
      go_round
      case rel => exact ⟨j + 1, by omega, by go_num, by rw [p2_succ]⟩
      case measure => simp [intOf]; omega
    · go_wp2
      go_ret
      exact ⟨ret_i (by rw [show j = n by omega]), rfl⟩

end Go.Proofs.Ytcnlcbkgbcnloaa

namespace Go.Proofs.Ytcnlcbkgbcnloaa
open Go.RowKit

theorem size_yes (x : Int) (w : World) (h1 : 1 ≤ x) (h2 : x ≤ 4) :
    Calls Try.prog 74 #[.int .i64 x] w fun e w' => e = .returned (.bool true) ∧ w' = w := by
  go_enter Try.func74, Try.ntmps74
  go_wp2
  go_ret
  exact ⟨rfl, rfl⟩

end Go.Proofs.Ytcnlcbkgbcnloaa

namespace Go.Proofs.Ytcnlcbkgbcnloaa
open Go.RowKit Go.Joins OutMath BigTextMath

theorem make1 (w : World) : (Instr.makeSlice 22 (.int .i64 1) (.int .i64 1)).run Try.prog w = .ok (.slice (some ⟨w.heap.size, 0, none⟩) 1 1) (w.alloc (.cells #[.int .u8 0] 5)) := by kernel_rfl

set_option maxHeartbeats 800000 in
theorem implBig_yes1 (n : Int) (w : World) (h0 : 0 ≤ n) (hn : n < 256) :
    Calls Try.prog 66 #[.int .i64 n, .int .i64 1] w fun e w' => e = .returned (.tuple #[.string (strOfNums (low n 1)), .bool true]) ∧ Below w.heap.size w w' := by
  have d1 : decide (n < 0) = false := by simp; omega
  have d2 : decide ((256 : Int) ≤ n) = false := by simp; omega
  have hmk := make1
  have kc := conv1
  have HL : Hid (low n 1 = _) := low1 n h0 hn
  go_enter Try.func66, Try.ntmps66
  go_wp2_with fail
  refine (size_yes _ _ (by omega) (by omega)).mono ?_
  rintro e w1 ⟨rfl, rfl⟩
  go_wp2_with fail
  refine wp_loop_rounds 2 ?_
  iterate 2 (rw [rounds_succ]; go_wp2)
  go_ret2
  exact ⟨ret_sb HL.out.symm, bstart _ _⟩

theorem conv2 (x0 x1 : Int) (w : World) : (convert 22 9 (.slice (some ⟨w.heap.size, 0, none⟩) 2 2)).run Try.prog (w.alloc (.cells #[.int .u8 x0, .int .u8 x1] 5)) = .ok (.string (strOfNums [x0, x1])) (w.alloc (.cells #[.int .u8 x0, .int .u8 x1] 5)) := by
  refine run_convert_bytes_arg _ 22 5 Try.underlying22 Try.underlying5 w.heap.size 0 2 2 [x0, x1] rfl ?_ 9 Try.underlying9
  intro i hi
  have hi4 : i = 0 ∨ i = 1 := by omega
  rcases hi4 with rfl | rfl <;> simp

theorem make2 (w : World) : (Instr.makeSlice 22 (.int .i64 2) (.int .i64 2)).run Try.prog w = .ok (.slice (some ⟨w.heap.size, 0, none⟩) 2 2) (w.alloc (.cells #[.int .u8 0, .int .u8 0] 5)) := by kernel_rfl

set_option maxHeartbeats 800000 in
theorem implBig_yes2 (n : Int) (w : World) (h0 : 0 ≤ n) (hn : n < 65536) :
    Calls Try.prog 66 #[.int .i64 n, .int .i64 2] w fun e w' => e = .returned (.tuple #[.string (strOfNums (low n 2)), .bool true]) ∧ Below w.heap.size w w' := by
  have d1 : decide (n < 0) = false := by simp; omega
  have d2 : decide ((65536 : Int) ≤ n) = false := by simp; omega
  have hmk := make2
  have kc := conv2
  have HL : Hid (low n 2 = _) := low2 n h0 hn
  go_enter Try.func66, Try.ntmps66
  go_wp2_with fail
  refine (size_yes _ _ (by omega) (by omega)).mono ?_
  rintro e w1 ⟨rfl, rfl⟩
  go_wp2_with fail
  refine wp_loop_rounds 3 ?_
  iterate 3 (rw [rounds_succ]; go_wp2)
  go_ret2
  exact ⟨ret_sb HL.out.symm, bstart _ _⟩

theorem conv3 (x0 x1 x2 : Int) (w : World) : (convert 22 9 (.slice (some ⟨w.heap.size, 0, none⟩) 3 3)).run Try.prog (w.alloc (.cells #[.int .u8 x0, .int .u8 x1, .int .u8 x2] 5)) = .ok (.string (strOfNums [x0, x1, x2])) (w.alloc (.cells #[.int .u8 x0, .int .u8 x1, .int .u8 x2] 5)) := by
  refine run_convert_bytes_arg _ 22 5 Try.underlying22 Try.underlying5 w.heap.size 0 3 3 [x0, x1, x2] rfl ?_ 9 Try.underlying9
  intro i hi
  have hi4 : i = 0 ∨ i = 1 ∨ i = 2 := by omega
  rcases hi4 with rfl | rfl | rfl <;> simp

theorem make3 (w : World) : (Instr.makeSlice 22 (.int .i64 3) (.int .i64 3)).run Try.prog w = .ok (.slice (some ⟨w.heap.size, 0, none⟩) 3 3) (w.alloc (.cells #[.int .u8 0, .int .u8 0, .int .u8 0] 5)) := by kernel_rfl

set_option maxHeartbeats 800000 in
theorem implBig_yes3 (n : Int) (w : World) (h0 : 0 ≤ n) (hn : n < 16777216) :
    Calls Try.prog 66 #[.int .i64 n, .int .i64 3] w fun e w' => e = .returned (.tuple #[.string (strOfNums (low n 3)), .bool true]) ∧ Below w.heap.size w w' := by
  have d1 : decide (n < 0) = false := by simp; omega
  have d2 : decide ((16777216 : Int) ≤ n) = false := by simp; omega
  have hmk := make3
  have kc := conv3
  have HL : Hid (low n 3 = _) := low3 n h0 hn
  go_enter Try.func66, Try.ntmps66
  go_wp2_with fail
  refine (size_yes _ _ (by omega) (by omega)).mono ?_
  rintro e w1 ⟨rfl, rfl⟩
  go_wp2_with fail
  refine wp_loop_rounds 4 ?_
  iterate 4 (rw [rounds_succ]; go_wp2)
  go_ret2
  exact ⟨ret_sb HL.out.symm, bstart _ _⟩

theorem conv4 (x0 x1 x2 x3 : Int) (w : World) : (convert 22 9 (.slice (some ⟨w.heap.size, 0, none⟩) 4 4)).run Try.prog (w.alloc (.cells #[.int .u8 x0, .int .u8 x1, .int .u8 x2, .int .u8 x3] 5)) = .ok (.string (strOfNums [x0, x1, x2, x3])) (w.alloc (.cells #[.int .u8 x0, .int .u8 x1, .int .u8 x2, .int .u8 x3] 5)) := by
  refine run_convert_bytes_arg _ 22 5 Try.underlying22 Try.underlying5 w.heap.size 0 4 4 [x0, x1, x2, x3] rfl ?_ 9 Try.underlying9
  intro i hi
  have hi4 : i = 0 ∨ i = 1 ∨ i = 2 ∨ i = 3 := by omega
  rcases hi4 with rfl | rfl | rfl | rfl <;> simp

theorem make4 (w : World) : (Instr.makeSlice 22 (.int .i64 4) (.int .i64 4)).run Try.prog w = .ok (.slice (some ⟨w.heap.size, 0, none⟩) 4 4) (w.alloc (.cells #[.int .u8 0, .int .u8 0, .int .u8 0, .int .u8 0] 5)) := by kernel_rfl

set_option maxHeartbeats 800000 in
theorem implBig_yes4 (n : Int) (w : World) (h0 : 0 ≤ n) (hn : n < 4294967296) :
    Calls Try.prog 66 #[.int .i64 n, .int .i64 4] w fun e w' => e = .returned (.tuple #[.string (strOfNums (low n 4)), .bool true]) ∧ Below w.heap.size w w' := by
  have d1 : decide (n < 0) = false := by simp; omega
  have d2 : decide ((4294967296 : Int) ≤ n) = false := by simp; omega
  have hmk := make4
  have kc := conv4
  have HL : Hid (low n 4 = _) := low4 n h0 hn
  go_enter Try.func66, Try.ntmps66
  go_wp2_with fail
  refine (size_yes _ _ (by omega) (by omega)).mono ?_
  rintro e w1 ⟨rfl, rfl⟩
  go_wp2_with fail
  refine wp_loop_rounds 5 ?_
  iterate 5 (rw [rounds_succ]; go_wp2)
  go_ret2
  exact ⟨ret_sb HL.out.symm, bstart _ _⟩

theorem pb_8 : p2 8 = 256 := by decide +kernel
theorem p2_16 : p2 16 = 65536 := by decide +kernel
theorem pb_24 : p2 24 = 16777216 := by decide +kernel
theorem p2_32 : p2 32 = 4294967296 := by decide +kernel

theorem implBig_yes (n : Int) (k : Nat) (w : World) (h0 : 0 ≤ n) (h1 : 1 ≤ k) (h4 : k ≤ 4) (hn : n < p2 (8 * k)) :
    Calls Try.prog 66 #[.int .i64 n, .int .i64 k] w fun e w' => e = .returned (.tuple #[.string (strOfNums (low n k)), .bool true]) ∧ Below w.heap.size w w' := by
  have hk : k = 1 ∨ k = 2 ∨ k = 3 ∨ k = 4 := by omega
  rcases hk with rfl | rfl | rfl | rfl
  · exact implBig_yes1 n w h0 (by have e : 8 * 1 = 8 := rfl; rw [e, pb_8] at hn; exact hn)
  · exact implBig_yes2 n w h0 (by have e : 8 * 2 = 16 := rfl; rw [e, p2_16] at hn; exact hn)
  · exact implBig_yes3 n w h0 (by have e : 8 * 3 = 24 := rfl; rw [e, pb_24] at hn; exact hn)
  · exact implBig_yes4 n w h0 (by have e : 8 * 4 = 32 := rfl; rw [e, p2_32] at hn; exact hn)

end Go.Proofs.Ytcnlcbkgbcnloaa

namespace Go.Proofs.Ytcnlcbkgbcnloaa
open Go.RowKit BigMath

set_option maxHeartbeats 400000 in
theorem implRead_yes (s : ByteArray) (a k : Nat) (w : World) (hs : s.size ≤ 1048576) (h1 : 1 ≤ k) (h4 : k ≤ 4) (ha : a + k ≤ s.size) :
    Calls Try.prog 67 #[.string s, .int .i64 a, .int .i64 k] w fun e w' => e = .returned (.tuple #[.int .i64 (rb s a k), .bool true]) ∧ w' = w := by
  have d1 : decide ((a : Int) < 0) = false := by simp
  have d2 : decide ((s.size : Int) - (k : Int) < (a : Int)) = false := by simp; omega
  go_enter Try.func67, Try.ntmps67
  go_wp2_with (go_at_call 74; refine (size_yes _ _ ?_ ?_).mono ?_; omega; omega; rintro e w' ⟨rfl, rfl⟩)
  go_loop [8, 26] (fun n i => ∃ j : Nat, j ≤ k ∧ i = .int .i64 j ∧ n = .int .i64 (rb s a j)) (fun _ i => k - (intOf i).toNat)
  case atStart => exact ⟨0, Nat.zero_le _, rfl, rfl⟩
  case round =>
    obtain ⟨j, hj, rfl, rfl⟩ := hrel
    by_cases hlt : j < k
    · have hb := rb_lt3 s a j (by omega)
      have hu : (s[a + j]'(by omega)).toNat < 256 := UInt8.toNat_lt _
      have HS : Hid (rb s a (j + 1) = 256 * rb s a j + ((s[a + j]'(by omega)).toNat : Int)) := rb_succ s a j (by omega)
      have HO : Hid (bits .or .i64 (rb s a j * 256) ((s[a + j]'(by omega)).toNat : Int) = 256 * rb s a j + ((s[a + j]'(by omega)).toNat : Int)) := or_byte _ _ hb.1 hb.2 hu
      go_wp2
      go_round
      case rel => exact ⟨j + 1, by omega, by go_num, by rw [HS.out, HO.out]⟩
      case measure => simp [intOf]; omega
    · go_wp2
      go_ret2
      exact ⟨ret_pair (by rw [show j = k by omega]), rfl⟩

end Go.Proofs.Ytcnlcbkgbcnloaa

namespace Go.Proofs.Ytcnlcbkgbcnloaa
open Go.RowKit Go.Joins RastMath HeadMath

set_option maxRecDepth 100000 in
set_option maxHeartbeats 1600000 in
theorem implHeadOk (x y d c : Int) (l : Bool) (w : World) :
    Calls Try.prog 23 #[.agg #[.int .i64 x, .int .i64 y, .int .i64 d, .int .i64 c, .bool l]] w fun e w' => e = .returned (.bool (decide (HeadR x y d c))) ∧ Below w.heap.size w w' := by
  have hs0 := isSide_any x
  have hs1 := isSide_any y
  have hd := implDepth c d
  have HB := hid_of (bstart w (.cells #[.int .i64 x, .int .i64 y, .int .i64 d, .int .i64 c, .bool l] 25))
  by_cases h0 : SideR x
  · rw [decide_eq_true h0] at hs0
    by_cases h1 : SideR y
    · rw [decide_eq_true h1] at hs1
      rw [show decide (HeadR x y d c) = decide (DepthR c d) from decide_eq_decide.mpr ⟨fun h => h.2.2, fun h => ⟨h0, h1, h⟩⟩]
      generalize decide (DepthR c d) = b at hd ⊢
      clear h0 h1
      go_enter Try.func23, Try.ntmps23
      go_wp2_with fail
      refine (hs0 _).mono ?_
      rintro e w1 ⟨rfl, rfl⟩
      go_wp2_with fail
      refine (hs1 _).mono ?_
      rintro e w1 ⟨rfl, rfl⟩
      go_wp2_with fail
      refine (hd _).mono ?_
      rintro e w1 ⟨rfl, hB1⟩
      have HB1 := hid_of (bnext HB.out hB1)
      clear hB1
      go_wp2_with fail
      go_ret
      exact ⟨rfl, HB1.out⟩
    · rw [decide_eq_false h1] at hs1
      rw [decide_eq_false (fun h : HeadR x y d c => h1 h.2.1)]
      clear h0 h1
      go_enter Try.func23, Try.ntmps23
      go_wp2_with fail
      refine (hs0 _).mono ?_
      rintro e w1 ⟨rfl, rfl⟩
      go_wp2_with fail
      refine (hs1 _).mono ?_
      rintro e w1 ⟨rfl, rfl⟩
      go_wp2_with fail
      go_ret
      exact ⟨rfl, HB.out⟩
  · rw [decide_eq_false h0] at hs0
    rw [decide_eq_false (fun h : HeadR x y d c => h0 h.1)]
    clear h0
    go_enter Try.func23, Try.ntmps23
    go_wp2_with fail
    refine (hs0 _).mono ?_
    rintro e w1 ⟨rfl, rfl⟩
    go_wp2_with fail
    go_ret
    exact ⟨rfl, HB.out⟩
end Go.Proofs.Ytcnlcbkgbcnloaa
