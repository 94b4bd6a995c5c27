/-
  The law FnExactStoredBlock over what the program answers.
-/
import Derived.Test.YtbcnlggkoidmmaaRows
import Derived.Test.YtbcnlggkoidmmaaBase
import Derived.Test.YtbcnlggkoidmmaaOutMath
import Derived.Test.YtbcnlggkoidmmaaOutWalks
import Derived.Test.YtbcnlggkoidmmaaBlkStored
import Derived.Test.YtbcnlggkoidmmaaBlkAns
import Derived.Test.YtbcnlggkoidmmaaStoredAns
import Derived.WalkKit
import Derived.ProofKit
import Derived.Below
import Derived.Lib.SmallJoins
namespace Go.Proofs.Ytbcnlggkoidmmaa
open Go.RowKit Go.Joins OutMath


set_option maxRecDepth 100000 in
set_option maxHeartbeats 1600000 in
theorem FnExactStoredBlock_at (s tx t : ByteArray) (c n : Int) (b last : Bool) (w : World) (hs : (s.size : Int) ≤ 1048576) (ht : (tx.size : Int) ≤ 1048576)
    (hx : ∀ w, Calls Try.prog 16 #[.agg #[.string s, .int .i64 c], .string tx, .bool last] w fun e w' => e = .returned (.tuple #[.agg #[.string t, .int .i64 n], .bool b]) ∧ Below w.heap.size w w')
    (hy : ∀ w, Calls Try.prog 18 #[.agg #[.string s, .int .i64 c], .string tx, .bool last] w fun e w' => e = .returned (.tuple #[.agg #[.string t, .int .i64 n], .bool b]) ∧ Below w.heap.size w w') :
    Calls Try.prog 4 #[.agg #[.string s, .int .i64 c], .string tx, .bool last] w fun e w' => e = .returned (.bool true) ∧ Below w.heap.size w w' := by
  have Hx := hid_of hx
  have Hy := hid_of hy
  clear hx hy
  have d : ¬ (1048576 : Int) - (s.size : Int) < 0 := by omega
  have dt : decide ((1048576 : Int) < (tx.size : Int)) = false := decide_eq_false (by omega)
  have dt' : decide (1048576 < tx.size) = false := decide_eq_false (by omega)
  go_enter Try.func4, Try.ntmps4
  go_wp2_with fail
  refine (szOut_ok s c _ _ (by omega) (by omega) (by omega)).mono ?_
  rintro e w1 ⟨rfl, hb1⟩
  obtain ⟨k1, f1⟩ := bcell hb1
  have z1 : w.heap.size < w1.heap.size := by have := hb1.size; simp at this; omega
  go_wp2_with fail
  refine (toOut_any s c _).mono ?_
  rintro e w2 ⟨rfl, hb2⟩
  go_wp2_with fail
  refine (Hx.out _).mono ?_
  rintro e w3 ⟨rfl, hb3⟩
  have hb := (hb1.trans (hb2.mono hb1.size)).trans (hb3.mono (Nat.le_trans hb1.size hb2.size))
  clear k1 f1
  obtain ⟨k1, f1⟩ := bcell hb
  have z3 : w.heap.size < w3.heap.size := by have := hb.size; simp at this; omega
  go_wp2_with fail
  refine (toOut_any s c _).mono ?_
  rintro e w4 ⟨rfl, hb4⟩
  go_wp2_with fail
  refine (Hy.out _).mono ?_
  rintro e w5 ⟨rfl, hb5⟩
  have hb45 := hb4.trans (hb5.mono hb4.size)
  obtain ⟨k4, f4⟩ := bcell hb45
  have z5 : w3.heap.size < w5.heap.size := by have := hb45.size; simp at this; omega
  go_wp2_with fail
  refine (eqOut_same t n _).mono ?_
  rintro e w6 ⟨rfl, hb6⟩
  go_wp2_with fail
  go_ret
  exact ⟨rfl, bnext (bal (bnext (bal (bnext (bstart _ _) hb) _) hb45) _) hb6⟩

set_option maxRecDepth 100000 in
set_option maxHeartbeats 1600000 in
theorem FnExactStoredBlock_over (hA : StoredAnswer) (s : ByteArray) (c : Int) (tx : ByteArray) (last : Bool) (w : World) (hs0 : s.size ≤ maxLen) (hwc : (Lit.int .i64 c).wf = true) (_ht0 : tx.size ≤ maxLen) :
    Calls Try.prog 4 #[.agg #[.string s, .int .i64 c], .string tx, .bool last] w fun e w' => e = .returned (.bool true) ∧ Below w.heap.size w w' := by
  obtain ⟨hc1, hc2⟩ := bounds_i64 hwc
  by_cases ht : (tx.size : Int) ≤ 1048576
  · by_cases hs : (s.size : Int) ≤ 1048576
    · obtain ⟨t, n, b, he⟩ := blkAns_form (storedOut s c tx last)
      refine FnExactStoredBlock_at s tx t c n b last w hs ht (fun w => ?_) (fun w => ?_)
      · rw [← he]
        exact specStored s c tx last w hs0 hc1 hc2 (by omega)
      · rw [← he]
        exact hA s c tx last w (by omega) hc1 hc2 (by omega)
    · have d : (1048576 : Int) < (s.size : Int) := by omega
      have dt : decide ((1048576 : Int) < (tx.size : Int)) = false := decide_eq_false (by omega)
      have dt' : decide (1048576 < tx.size) = false := decide_eq_false (by omega)
      go_enter Try.func4, Try.ntmps4
      go_wp2_with fail
      refine (szOut_no s c _ _ hs0 (by omega) (by omega) d).mono ?_
      rintro e w1 ⟨rfl, hb1⟩
      go_wp2_with fail
      go_ret
      exact ⟨rfl, (below_alloc1 _ _).trans (hb1.mono (by simp))⟩
  · have dt : decide ((1048576 : Int) < (tx.size : Int)) = true := decide_eq_true (by omega)
    have dt' : decide (1048576 < tx.size) = true := decide_eq_true (by omega)
    go_enter Try.func4, Try.ntmps4
    go_wp2_with fail
    go_ret
    exact ⟨rfl, bstart _ _⟩
end Go.Proofs.Ytbcnlggkoidmmaa
