/-
  The walks of FillByte in the program.
-/
import Derived.Test.YtdjpjdjljobalaaRows
import Derived.Test.YtdjpjdjljobalaaBase
import Derived.Test.YtdjpjdjljobalaaOutMath
import Derived.Test.YtdjpjdjljobalaaOutWalks
import Derived.WalkKit
import Derived.ProofKit
import Derived.WalkLawsBesides
import Derived.Deep.QuietTactic
import Derived.Deep.RegionWith
import Derived.BigQuiet
import Derived.Lib.SmallJoins
namespace Go.Proofs.Ytdjpjdjljobalaa
open Go.RowKit Go.Joins OutMath

set_option maxHeartbeats 400000 in
theorem implFill_yes (s : ByteArray) (c : Int) (w : World) (hs : s.size ≤ maxLen) (hc1 : -9223372036854775808 ≤ c) (hc2 : c ≤ 9223372036854775807) (h : outB s c = true) :
    Calls Try.prog 16 #[.agg #[.string s, .int .i64 c]] w fun e w' => e = .returned (.tuple #[.agg #[.string s, .int .i64 (8 * s.size)], .bool true]) ∧ Below w.heap.size w w' := by
  have hq := fits_of_outB s c h
  obtain ⟨q1, q2, q3, q4⟩ := hq
  have hw8 : IntKind.i64.wrap (8 * (s.size : Int)) = 8 * (s.size : Int) := by rw [IntKind.wrap_i64]; omega
  go_enter Try.func16, Try.ntmps16
  go_wp2_with fail
  refine (implOut_any s c _ hs hc1 hc2).mono ?_
  rintro e w1 ⟨rfl, hb1⟩
  obtain ⟨k1, f1⟩ := bcell hb1
  have hz : w.heap.size + 1 < w1.heap.size := by have := hb1.size; simp at this; omega
  have hB : Below w.heap.size w w1 := by
    refine (below_alloc2 w _ _).trans (hb1.mono ?_)
    simp; omega
  go_wp2_with fail
  go_region_with (go_at_call 39; refine (bytesFor_any _ _ ?_ ?_).mono ?_; omega; omega; rintro e w' ⟨rfl, rfl⟩)
  all_goals
    go_wp2
    refine bodyPost_ret (v := .tuple #[.agg #[.string s, .int .i64 (8 * s.size)], .bool true]) (by simp [results, Try.results16, go_sem, k1]) rfl ⟨rfl, ?_⟩
    refine Below.drew (Below.setCell (Below.setCell hB ?_ _) ?_ _)
    · simp
    · simp

set_option maxHeartbeats 400000 in
theorem implFill_no (s : ByteArray) (c : Int) (w : World) (hs : s.size ≤ maxLen) (hc1 : -9223372036854775808 ≤ c) (hc2 : c ≤ 9223372036854775807) (h : outB s c = false) :
    Calls Try.prog 16 #[.agg #[.string s, .int .i64 c]] w fun e w' => e = .returned (.tuple #[.agg #[.string ⟨#[]⟩, .int .i64 0], .bool false]) ∧ Below w.heap.size w w' := by
  go_enter Try.func16, Try.ntmps16
  go_wp2_with fail
  refine (implOut_any s c _ hs hc1 hc2).mono ?_
  rintro e w1 ⟨rfl, hb1⟩
  obtain ⟨k1, f1⟩ := bcell hb1
  have hz : w.heap.size + 1 < w1.heap.size := by have := hb1.size; simp at this; omega
  have hB : Below w.heap.size w w1 := by
    refine (below_alloc2 w _ _).trans (hb1.mono ?_)
    simp; omega
  go_wp2_with fail
  refine bodyPost_ret (v := .tuple #[.agg #[.string ⟨#[]⟩, .int .i64 0], .bool false]) (by simp [results, Try.results16, go_sem, k1]) rfl ⟨rfl, ?_⟩
  refine Below.setCell (Below.setCell hB ?_ _) ?_ _
  · simp
  · simp
end Go.Proofs.Ytdjpjdjljobalaa
