/-
  The walks of FillByte, in the document's model and in the program.
-/
import Derived.Test.YtbcnlggkoidmmaaRows
import Derived.Test.YtbcnlggkoidmmaaBase
import Derived.Test.YtbcnlggkoidmmaaOutMath
import Derived.Test.YtbcnlggkoidmmaaOutWalks
import Derived.WalkKit
import Derived.ProofKit
import Derived.WalkLawsBesides
import Derived.Deep.QuietTactic
import Derived.Deep.RegionWith
import Derived.BigQuiet
import Derived.Lib.SmallJoins
namespace Go.Proofs.Ytbcnlggkoidmmaa
open Go.RowKit Go.Joins OutMath

set_option maxHeartbeats 400000 in
theorem specFill_yes (s : ByteArray) (c : Int) (w : World) (hs : s.size ≤ maxLen) (hc1 : -9223372036854775808 ≤ c) (hc2 : c ≤ 9223372036854775807) (h : outB s c = true) :
    Calls Try.prog 35 #[.agg #[.string s, .int .i64 c]] w fun e w' => e = .returned (.tuple #[.agg #[.string s, .int .i64 (8 * s.size)], .bool true]) ∧ Below w.heap.size w w' := by
  have hq := fits_of_outB s c h
  obtain ⟨q1, q2, q3, q4⟩ := hq
  clear q4
  go_enter Try.func35, Try.ntmps35
  go_wp2_with fail
  refine (specOut_any s c _ hs hc1 hc2).mono ?_
  rintro e w1 ⟨rfl, hb1⟩
  obtain ⟨k1, f1⟩ := bcell hb1
  have hz : w.heap.size + 1 < w1.heap.size := by have := hb1.size; simp at this; omega
  go_wp2_with fail
  refine bodyPost_ret (v := .tuple #[.agg #[.string s, .int .i64 (8 * s.size)], .bool true]) (by simp [results, Try.results35, go_sem, k1]) rfl ⟨rfl, ?_⟩
  refine Below.setCell (Below.setCell ((below_alloc2 w _ _).trans (hb1.mono ?_)) ?_ _) ?_ _
  · simp; omega
  · simp
  · simp

set_option maxHeartbeats 400000 in
theorem specFill_no (s : ByteArray) (c : Int) (w : World) (hs : s.size ≤ maxLen) (hc1 : -9223372036854775808 ≤ c) (hc2 : c ≤ 9223372036854775807) (h : outB s c = false) :
    Calls Try.prog 35 #[.agg #[.string s, .int .i64 c]] w fun e w' => e = .returned (.tuple #[.agg #[.string ⟨#[]⟩, .int .i64 0], .bool false]) ∧ Below w.heap.size w w' := by
  go_enter Try.func35, Try.ntmps35
  go_wp2_with fail
  refine (specOut_any s c _ hs hc1 hc2).mono ?_
  rintro e w1 ⟨rfl, hb1⟩
  obtain ⟨k1, f1⟩ := bcell hb1
  have hz : w.heap.size + 1 < w1.heap.size := by have := hb1.size; simp at this; omega
  have hB : Below w.heap.size w w1 := by
    refine (below_alloc2 w _ _).trans (hb1.mono ?_)
    simp; omega
  go_wp2_with fail
  refine bodyPost_ret (v := .tuple #[.agg #[.string ⟨#[]⟩, .int .i64 0], .bool false]) (by simp [results, Try.results35, go_sem, k1]) rfl ⟨rfl, ?_⟩
  refine Below.setCell (Below.setCell hB ?_ _) ?_ _
  · simp
  · simp

end Go.Proofs.Ytbcnlggkoidmmaa
