/-
  The walks of FillByte, in the document's model and in the program.
-/
import Derived.Test.YtdjpjdjljobalabRows
import Derived.Test.YtdjpjdjljobalabBase
import Derived.Test.YtdjpjdjljobalabOutMath
import Derived.Test.YtdjpjdjljobalabOutWalks
import Derived.WalkKit
import Derived.ProofKit
import Derived.WalkLawsBesides
import Derived.Deep.QuietTactic
import Derived.Deep.RegionWith
import Derived.BigQuiet
import Derived.Lib.SmallJoins
namespace Go.Proofs.Ytdjpjdjljobalab
open Go.RowKit Go.Joins OutMath

set_option maxHeartbeats 400000 in
theorem specFill_yes (s : ByteArray) (c : Int) (w : World) (hs : s.size ≤ maxLen) (hc1 : -9223372036854775808 ≤ c) (hc2 : c ≤ 9223372036854775807) (h : outB s c = true) :
    Calls Try.prog 12 #[.agg #[.string s, .int .i64 c]] w fun e w' => e = .returned (.tuple #[.agg #[.string s, .int .i64 (8 * s.size)], .bool true]) ∧ Below w.heap.size w w' := by
  have hq := fits_of_outB s c h
  obtain ⟨q1, q2, q3, q4⟩ := hq
  clear q4
  go_enter Try.func12, Try.ntmps12
  go_wp2_with fail
  refine (specOut_any s c _ hs hc1 hc2).mono ?_
  rintro e w1 ⟨rfl, hb1⟩
  obtain ⟨k1, f1⟩ := bcell hb1
  have hz : w.heap.size + 1 < w1.heap.size := by have := hb1.size; simp at this; omega
  go_wp2_with fail
  refine bodyPost_ret (v := .tuple #[.agg #[.string s, .int .i64 (8 * s.size)], .bool true]) (by simp [results, Try.results12, go_sem, k1]) rfl ⟨rfl, ?_⟩
  refine Below.setCell (Below.setCell ((below_alloc2 w _ _).trans (hb1.mono ?_)) ?_ _) ?_ _
  · simp; omega
  · simp
  · simp

set_option maxHeartbeats 400000 in
theorem implFill_yes (s : ByteArray) (c : Int) (w : World) (hs : s.size ≤ maxLen) (hc1 : -9223372036854775808 ≤ c) (hc2 : c ≤ 9223372036854775807) (h : outB s c = true) :
    Calls Try.prog 13 #[.agg #[.string s, .int .i64 c]] w fun e w' => e = .returned (.tuple #[.agg #[.string s, .int .i64 (8 * s.size)], .bool true]) ∧ Below w.heap.size w w' := by
  have hq := fits_of_outB s c h
  obtain ⟨q1, q2, q3, q4⟩ := hq
  have hw8 : IntKind.i64.wrap (8 * (s.size : Int)) = 8 * (s.size : Int) := by rw [IntKind.wrap_i64]; omega
  go_enter Try.func13, Try.ntmps13
  go_wp2_with fail
  refine (implOut_any s c _ hs hc1 hc2).mono ?_
  rintro e w1 ⟨rfl, hb1⟩
  obtain ⟨k1, f1⟩ := bcell hb1
  have hz : w.heap.size + 1 < w1.heap.size := by have := hb1.size; simp at this; omega
  have hB : Below w.heap.size w w1 := by
    refine (below_alloc2 w _ _).trans (hb1.mono ?_)
    simp; omega
  go_wp2_with fail
  go_region_with (go_at_call 26; refine (bytesFor_any _ _ ?_ ?_).mono ?_; omega; omega; rintro e w' ⟨rfl, rfl⟩)
  all_goals
    go_wp2
    refine bodyPost_ret (v := .tuple #[.agg #[.string s, .int .i64 (8 * s.size)], .bool true]) (by simp [results, Try.results13, go_sem, k1]) rfl ⟨rfl, ?_⟩
    refine Below.drew (Below.setCell (Below.setCell hB ?_ _) ?_ _)
    · simp
    · simp

set_option maxHeartbeats 400000 in
theorem specFill_no (s : ByteArray) (c : Int) (w : World) (hs : s.size ≤ maxLen) (hc1 : -9223372036854775808 ≤ c) (hc2 : c ≤ 9223372036854775807) (h : outB s c = false) :
    Calls Try.prog 12 #[.agg #[.string s, .int .i64 c]] w fun e w' => e = .returned (.tuple #[.agg #[.string ⟨#[]⟩, .int .i64 0], .bool false]) ∧ Below w.heap.size w w' := by
  go_enter Try.func12, Try.ntmps12
  go_wp2_with fail
  refine (specOut_any s c _ hs hc1 hc2).mono ?_
  rintro e w1 ⟨rfl, hb1⟩
  obtain ⟨k1, f1⟩ := bcell hb1
  have hz : w.heap.size + 1 < w1.heap.size := by have := hb1.size; simp at this; omega
  have hB : Below w.heap.size w w1 := by
    refine (below_alloc2 w _ _).trans (hb1.mono ?_)
    simp; omega
  go_wp2_with fail
  refine bodyPost_ret (v := .tuple #[.agg #[.string ⟨#[]⟩, .int .i64 0], .bool false]) (by simp [results, Try.results12, go_sem, k1]) rfl ⟨rfl, ?_⟩
  refine Below.setCell (Below.setCell hB ?_ _) ?_ _
  · simp
  · simp

set_option maxHeartbeats 400000 in
theorem implFill_no (s : ByteArray) (c : Int) (w : World) (hs : s.size ≤ maxLen) (hc1 : -9223372036854775808 ≤ c) (hc2 : c ≤ 9223372036854775807) (h : outB s c = false) :
    Calls Try.prog 13 #[.agg #[.string s, .int .i64 c]] w fun e w' => e = .returned (.tuple #[.agg #[.string ⟨#[]⟩, .int .i64 0], .bool false]) ∧ Below w.heap.size w w' := by
  go_enter Try.func13, Try.ntmps13
  go_wp2_with fail
  refine (implOut_any s c _ hs hc1 hc2).mono ?_
  rintro e w1 ⟨rfl, hb1⟩
  obtain ⟨k1, f1⟩ := bcell hb1
  have hz : w.heap.size + 1 < w1.heap.size := by have := hb1.size; simp at this; omega
  have hB : Below w.heap.size w w1 := by
    refine (below_alloc2 w _ _).trans (hb1.mono ?_)
    simp; omega
  go_wp2_with fail
  refine bodyPost_ret (v := .tuple #[.agg #[.string ⟨#[]⟩, .int .i64 0], .bool false]) (by simp [results, Try.results13, go_sem, k1]) rfl ⟨rfl, ?_⟩
  refine Below.setCell (Below.setCell hB ?_ _) ?_ _
  · simp
  · simp
end Go.Proofs.Ytdjpjdjljobalab
