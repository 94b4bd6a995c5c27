/-
  The walks of BigText, in the document's model and in the program.
-/
import Derived.Test.YtcnlcbkgbcnloaaRows
import Derived.Test.YtcnlcbkgbcnloaaBase
import Derived.Test.YtcnlcbkgbcnloaaOutMath
import Derived.Test.YtcnlcbkgbcnloaaOutWalks
import Derived.Test.YtcnlcbkgbcnloaaInWalks
import Derived.Test.YtcnlcbkgbcnloaaBigTextMath
import Derived.Test.YtcnlcbkgbcnloaaBigSpec
import Derived.WalkKit
import Derived.ProofKit
import Derived.WalkLawsBesides
import Derived.Laws.MakeOwn
import Derived.LoopN
import Derived.Test.YtcnlcbkgbcnloaaSizeWalks
import Derived.Lib.SmallJoins
namespace Go.Proofs.Ytcnlcbkgbcnloaa
open Go.RowKit Go.Joins OutMath BigTextMath

theorem implBig_size (n k : Int) (w : World) (h : ¬ (1 ≤ k ∧ k ≤ 4)) :
    Calls Try.prog 66 #[.int .i64 n, .int .i64 k] w fun e w' => e = .returned (.tuple #[.string ⟨#[]⟩, .bool false]) ∧ Below w.heap.size w w' := by
  have H : Hid (¬ (1 ≤ k ∧ k ≤ 4)) := h
  clear h
  go_enter Try.func66, Try.ntmps66
  go_wp2_with fail
  refine (size_no _ _ H.out).mono ?_
  rintro e w1 ⟨rfl, rfl⟩
  go_wp2_with fail
  go_ret2
  exact ⟨rfl, Below.refl _ _⟩

theorem make1 (w : World) : (Instr.makeSlice 22 (.int .i64 1) (.int .i64 1)).run Try.prog w = .ok (.slice (some ⟨w.heap.size, 0, none⟩) 1 1) (w.alloc (.cells #[.int .u8 0] 5)) := by kernel_rfl

set_option maxHeartbeats 800000 in
theorem implBig_yes1 (n : Int) (w : World) (h0 : 0 ≤ n) (hn : n < 256) :
    Calls Try.prog 66 #[.int .i64 n, .int .i64 1] w fun e w' => e = .returned (.tuple #[.string (strOfNums (low n 1)), .bool true]) ∧ Below w.heap.size w w' := by
  have d1 : decide (n < 0) = false := by simp; omega
  have d2 : decide ((256 : Int) ≤ n) = false := by simp; omega
  have hmk := make1
  have kc := conv1
  have HL : Hid (low n 1 = _) := low1 n h0 hn
  go_enter Try.func66, Try.ntmps66
  go_wp2_with fail
  refine (size_yes _ _ (by omega) (by omega)).mono ?_
  rintro e w1 ⟨rfl, rfl⟩
  go_wp2_with fail
  refine wp_loop_rounds 2 ?_
  iterate 2 (rw [rounds_succ]; go_wp2)
  go_ret2
  exact ⟨ret_sb HL.out.symm, bstart _ _⟩

theorem implBig_no1 (n : Int) (w : World) (h : ¬ (0 ≤ n ∧ n < 256)) :
    Calls Try.prog 66 #[.int .i64 n, .int .i64 1] w fun e w' => e = .returned (.tuple #[.string ⟨#[]⟩, .bool false]) ∧ Below w.heap.size w w' := by
  by_cases h0 : n < 0
  · clear h
    go_enter Try.func66, Try.ntmps66
    go_wp2_with fail
    refine (size_yes _ _ (by omega) (by omega)).mono ?_
    rintro e w1 ⟨rfl, rfl⟩
    go_wp2_with fail
    go_ret2
    exact ⟨rfl, Below.refl _ _⟩
  · have d1 : decide (n < 0) = false := by simpa using h0
    have d2 : (256 : Int) ≤ n := by omega
    clear h
    go_enter Try.func66, Try.ntmps66
    go_wp2_with fail
    refine (size_yes _ _ (by omega) (by omega)).mono ?_
    rintro e w1 ⟨rfl, rfl⟩
    go_wp2_with fail
    go_ret2
    exact ⟨rfl, Below.refl _ _⟩

theorem conv2 (x0 x1 : Int) (w : World) : (convert 22 9 (.slice (some ⟨w.heap.size, 0, none⟩) 2 2)).run Try.prog (w.alloc (.cells #[.int .u8 x0, .int .u8 x1] 5)) = .ok (.string (strOfNums [x0, x1])) (w.alloc (.cells #[.int .u8 x0, .int .u8 x1] 5)) := by
  refine run_convert_bytes_arg _ 22 5 Try.underlying22 Try.underlying5 w.heap.size 0 2 2 [x0, x1] rfl ?_ 9 Try.underlying9
  intro i hi
  have hi4 : i = 0 ∨ i = 1 := by omega
  rcases hi4 with rfl | rfl <;> simp

theorem make2 (w : World) : (Instr.makeSlice 22 (.int .i64 2) (.int .i64 2)).run Try.prog w = .ok (.slice (some ⟨w.heap.size, 0, none⟩) 2 2) (w.alloc (.cells #[.int .u8 0, .int .u8 0] 5)) := by kernel_rfl

set_option maxHeartbeats 800000 in
theorem implBig_yes2 (n : Int) (w : World) (h0 : 0 ≤ n) (hn : n < 65536) :
    Calls Try.prog 66 #[.int .i64 n, .int .i64 2] w fun e w' => e = .returned (.tuple #[.string (strOfNums (low n 2)), .bool true]) ∧ Below w.heap.size w w' := by
  have d1 : decide (n < 0) = false := by simp; omega
  have d2 : decide ((65536 : Int) ≤ n) = false := by simp; omega
  have hmk := make2
  have kc := conv2
  have HL : Hid (low n 2 = _) := low2 n h0 hn
  go_enter Try.func66, Try.ntmps66
  go_wp2_with fail
  refine (size_yes _ _ (by omega) (by omega)).mono ?_
  rintro e w1 ⟨rfl, rfl⟩
  go_wp2_with fail
  refine wp_loop_rounds 3 ?_
  iterate 3 (rw [rounds_succ]; go_wp2)
  go_ret2
  exact ⟨ret_sb HL.out.symm, bstart _ _⟩

theorem implBig_no2 (n : Int) (w : World) (h : ¬ (0 ≤ n ∧ n < 65536)) :
    Calls Try.prog 66 #[.int .i64 n, .int .i64 2] w fun e w' => e = .returned (.tuple #[.string ⟨#[]⟩, .bool false]) ∧ Below w.heap.size w w' := by
  by_cases h0 : n < 0
  · clear h
    go_enter Try.func66, Try.ntmps66
    go_wp2_with fail
    refine (size_yes _ _ (by omega) (by omega)).mono ?_
    rintro e w1 ⟨rfl, rfl⟩
    go_wp2_with fail
    go_ret2
    exact ⟨rfl, Below.refl _ _⟩
  · have d1 : decide (n < 0) = false := by simpa using h0
    have d2 : (65536 : Int) ≤ n := by omega
    clear h
    go_enter Try.func66, Try.ntmps66
    go_wp2_with fail
    refine (size_yes _ _ (by omega) (by omega)).mono ?_
    rintro e w1 ⟨rfl, rfl⟩
    go_wp2_with fail
    go_ret2
    exact ⟨rfl, Below.refl _ _⟩

theorem conv3 (x0 x1 x2 : Int) (w : World) : (convert 22 9 (.slice (some ⟨w.heap.size, 0, none⟩) 3 3)).run Try.prog (w.alloc (.cells #[.int .u8 x0, .int .u8 x1, .int .u8 x2] 5)) = .ok (.string (strOfNums [x0, x1, x2])) (w.alloc (.cells #[.int .u8 x0, .int .u8 x1, .int .u8 x2] 5)) := by
  refine run_convert_bytes_arg _ 22 5 Try.underlying22 Try.underlying5 w.heap.size 0 3 3 [x0, x1, x2] rfl ?_ 9 Try.underlying9
  intro i hi
  have hi4 : i = 0 ∨ i = 1 ∨ i = 2 := by omega
  rcases hi4 with rfl | rfl | rfl <;> simp

theorem make3 (w : World) : (Instr.makeSlice 22 (.int .i64 3) (.int .i64 3)).run Try.prog w = .ok (.slice (some ⟨w.heap.size, 0, none⟩) 3 3) (w.alloc (.cells #[.int .u8 0, .int .u8 0, .int .u8 0] 5)) := by kernel_rfl

set_option maxHeartbeats 800000 in
theorem implBig_yes3 (n : Int) (w : World) (h0 : 0 ≤ n) (hn : n < 16777216) :
    Calls Try.prog 66 #[.int .i64 n, .int .i64 3] w fun e w' => e = .returned (.tuple #[.string (strOfNums (low n 3)), .bool true]) ∧ Below w.heap.size w w' := by
  have d1 : decide (n < 0) = false := by simp; omega
  have d2 : decide ((16777216 : Int) ≤ n) = false := by simp; omega
  have hmk := make3
  have kc := conv3
  have HL : Hid (low n 3 = _) := low3 n h0 hn
  go_enter Try.func66, Try.ntmps66
  go_wp2_with fail
  refine (size_yes _ _ (by omega) (by omega)).mono ?_
  rintro e w1 ⟨rfl, rfl⟩
  go_wp2_with fail
  refine wp_loop_rounds 4 ?_
  iterate 4 (rw [rounds_succ]; go_wp2)
  go_ret2
  exact ⟨ret_sb HL.out.symm, bstart _ _⟩

theorem implBig_no3 (n : Int) (w : World) (h : ¬ (0 ≤ n ∧ n < 16777216)) :
    Calls Try.prog 66 #[.int .i64 n, .int .i64 3] w fun e w' => e = .returned (.tuple #[.string ⟨#[]⟩, .bool false]) ∧ Below w.heap.size w w' := by
  by_cases h0 : n < 0
  · clear h
    go_enter Try.func66, Try.ntmps66
    go_wp2_with fail
    refine (size_yes _ _ (by omega) (by omega)).mono ?_
    rintro e w1 ⟨rfl, rfl⟩
    go_wp2_with fail
    go_ret2
    exact ⟨rfl, Below.refl _ _⟩
  · have d1 : decide (n < 0) = false := by simpa using h0
    have d2 : (16777216 : Int) ≤ n := by omega
    clear h
    go_enter Try.func66, Try.ntmps66
    go_wp2_with fail
    refine (size_yes _ _ (by omega) (by omega)).mono ?_
    rintro e w1 ⟨rfl, rfl⟩
    go_wp2_with fail
    go_ret2
    exact ⟨rfl, Below.refl _ _⟩

theorem conv4 (x0 x1 x2 x3 : Int) (w : World) : (convert 22 9 (.slice (some ⟨w.heap.size, 0, none⟩) 4 4)).run Try.prog (w.alloc (.cells #[.int .u8 x0, .int .u8 x1, .int .u8 x2, .int .u8 x3] 5)) = .ok (.string (strOfNums [x0, x1, x2, x3])) (w.alloc (.cells #[.int .u8 x0, .int .u8 x1, .int .u8 x2, .int .u8 x3] 5)) := by
  refine run_convert_bytes_arg _ 22 5 Try.underlying22 Try.underlying5 w.heap.size 0 4 4 [x0, x1, x2, x3] rfl ?_ 9 Try.underlying9
  intro i hi
  have hi4 : i = 0 ∨ i = 1 ∨ i = 2 ∨ i = 3 := by omega
  rcases hi4 with rfl | rfl | rfl | rfl <;> simp

theorem make4 (w : World) : (Instr.makeSlice 22 (.int .i64 4) (.int .i64 4)).run Try.prog w = .ok (.slice (some ⟨w.heap.size, 0, none⟩) 4 4) (w.alloc (.cells #[.int .u8 0, .int .u8 0, .int .u8 0, .int .u8 0] 5)) := by kernel_rfl

set_option maxHeartbeats 800000 in
theorem implBig_yes4 (n : Int) (w : World) (h0 : 0 ≤ n) (hn : n < 4294967296) :
    Calls Try.prog 66 #[.int .i64 n, .int .i64 4] w fun e w' => e = .returned (.tuple #[.string (strOfNums (low n 4)), .bool true]) ∧ Below w.heap.size w w' := by
  have d1 : decide (n < 0) = false := by simp; omega
  have d2 : decide ((4294967296 : Int) ≤ n) = false := by simp; omega
  have hmk := make4
  have kc := conv4
  have HL : Hid (low n 4 = _) := low4 n h0 hn
  go_enter Try.func66, Try.ntmps66
  go_wp2_with fail
  refine (size_yes _ _ (by omega) (by omega)).mono ?_
  rintro e w1 ⟨rfl, rfl⟩
  go_wp2_with fail
  refine wp_loop_rounds 5 ?_
  iterate 5 (rw [rounds_succ]; go_wp2)
  go_ret2
  exact ⟨ret_sb HL.out.symm, bstart _ _⟩

theorem implBig_no4 (n : Int) (w : World) (h : ¬ (0 ≤ n ∧ n < 4294967296)) :
    Calls Try.prog 66 #[.int .i64 n, .int .i64 4] w fun e w' => e = .returned (.tuple #[.string ⟨#[]⟩, .bool false]) ∧ Below w.heap.size w w' := by
  by_cases h0 : n < 0
  · clear h
    go_enter Try.func66, Try.ntmps66
    go_wp2_with fail
    refine (size_yes _ _ (by omega) (by omega)).mono ?_
    rintro e w1 ⟨rfl, rfl⟩
    go_wp2_with fail
    go_ret2
    exact ⟨rfl, Below.refl _ _⟩
  · have d1 : decide (n < 0) = false := by simpa using h0
    have d2 : (4294967296 : Int) ≤ n := by omega
    clear h
    go_enter Try.func66, Try.ntmps66
    go_wp2_with fail
    refine (size_yes _ _ (by omega) (by omega)).mono ?_
    rintro e w1 ⟨rfl, rfl⟩
    go_wp2_with fail
    go_ret2
    exact ⟨rfl, Below.refl _ _⟩

theorem pb_8 : p2 8 = 256 := by decide +kernel
theorem p2_16 : p2 16 = 65536 := by decide +kernel
theorem pb_24 : p2 24 = 16777216 := by decide +kernel
theorem p2_32 : p2 32 = 4294967296 := by decide +kernel

theorem implBig_yes (n : Int) (k : Nat) (w : World) (h0 : 0 ≤ n) (h1 : 1 ≤ k) (h4 : k ≤ 4) (hn : n < p2 (8 * k)) :
    Calls Try.prog 66 #[.int .i64 n, .int .i64 k] w fun e w' => e = .returned (.tuple #[.string (strOfNums (low n k)), .bool true]) ∧ Below w.heap.size w w' := by
  have hk : k = 1 ∨ k = 2 ∨ k = 3 ∨ k = 4 := by omega
  rcases hk with rfl | rfl | rfl | rfl
  · exact implBig_yes1 n w h0 (by have e : 8 * 1 = 8 := rfl; rw [e, pb_8] at hn; exact hn)
  · exact implBig_yes2 n w h0 (by have e : 8 * 2 = 16 := rfl; rw [e, p2_16] at hn; exact hn)
  · exact implBig_yes3 n w h0 (by have e : 8 * 3 = 24 := rfl; rw [e, pb_24] at hn; exact hn)
  · exact implBig_yes4 n w h0 (by have e : 8 * 4 = 32 := rfl; rw [e, p2_32] at hn; exact hn)

theorem implBig_no (n k : Int) (w : World) (h : ¬ (1 ≤ k ∧ k ≤ 4 ∧ 0 ≤ n ∧ n < p2 (8 * k).toNat)) :
    Calls Try.prog 66 #[.int .i64 n, .int .i64 k] w fun e w' => e = .returned (.tuple #[.string ⟨#[]⟩, .bool false]) ∧ Below w.heap.size w w' := by
  by_cases hk : k = 1 ∨ k = 2 ∨ k = 3 ∨ k = 4
  · rcases hk with rfl | rfl | rfl | rfl
    · exact implBig_no1 n w fun c => h ⟨by omega, by omega, c.1, by have e : (8 * (1 : Int)).toNat = 8 := rfl; rw [e, pb_8]; exact c.2⟩
    · exact implBig_no2 n w fun c => h ⟨by omega, by omega, c.1, by have e : (8 * (2 : Int)).toNat = 16 := rfl; rw [e, p2_16]; exact c.2⟩
    · exact implBig_no3 n w fun c => h ⟨by omega, by omega, c.1, by have e : (8 * (3 : Int)).toNat = 24 := rfl; rw [e, pb_24]; exact c.2⟩
    · exact implBig_no4 n w fun c => h ⟨by omega, by omega, c.1, by have e : (8 * (4 : Int)).toNat = 32 := rfl; rw [e, p2_32]; exact c.2⟩
  · exact implBig_size n k w (by omega)
end Go.Proofs.Ytcnlcbkgbcnloaa
