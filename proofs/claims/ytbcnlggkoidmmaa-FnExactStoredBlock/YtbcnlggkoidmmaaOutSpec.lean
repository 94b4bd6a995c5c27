/-
  The walks of the document's model of a right Out.
-/
import Derived.Test.YtbcnlggkoidmmaaRows
import Derived.Test.YtbcnlggkoidmmaaOutMath
import Derived.Test.YtbcnlggkoidmmaaPowWalks
import Derived.Test.YtbcnlggkoidmmaaOutIndex
import Derived.WalkKit
import Derived.ProofKit
import Derived.WalkLawsBesides
import Derived.Deep.QuietTactic
import Derived.BigQuiet
import Derived.Lib.SmallJoins
namespace Go.Proofs.Ytbcnlggkoidmmaa
open Go.RowKit Go.Joins OutMath

set_option maxHeartbeats 400000 in
theorem specOut_fit0 (s : ByteArray) (c : Int) (w : World) (h : Fits s c) (hc : c % 8 = 0) :
    Calls Try.prog 59 #[.agg #[.string s, .int .i64 c]] w fun e w' => e = .returned (.bool true) ∧ Below w.heap.size w w' := by
  obtain ⟨h1, h2, h3, h4⟩ := h
  have d1 : decide ((12000 : Int) < s.size) = false := by simp; omega
  have d2 : decide (c < 0) = false := by simp; omega
  have d3 : decide (8 * (s.size : Int) < c) = false := by simp; omega
  have d4 : ((c + 7) / 8 != (s.size : Int)) = false := by simp; omega
  have d5 : (c % 8 == 0) = true := by simp; omega
  clear h4 hc
  go_enter Try.func59, Try.ntmps59
  go_wp2
  go_quiet (fail)
  go_wp2
  go_ret
  exact ⟨rfl, (below_alloc1 _ _).trans (below_draws _ _ _)⟩

set_option maxHeartbeats 400000 in
theorem specOut_fit1 (s : ByteArray) (c : Int) (w : World) (h : Fits s c) (hc : ¬ c % 8 = 0) :
    Calls Try.prog 59 #[.agg #[.string s, .int .i64 c]] w fun e w' => e = .returned (.bool (lastOk s c)) ∧ Below w.heap.size w w' := by
  obtain ⟨h1, h2, h3, h4⟩ := h
  have d1 : decide ((12000 : Int) < s.size) = false := by simp; omega
  have d2 : decide (c < 0) = false := by simp; omega
  have d3 : decide (8 * (s.size : Int) < c) = false := by simp; omega
  have d4 : ((c + 7) / 8 != (s.size : Int)) = false := by simp; omega
  have d5 : (c % 8 == 0) = false := by simp; omega
  have d6 : 0 < s.size := by omega
  have d7 : (0 : Int) ≤ (s.size : Int) - 1 ∧ (s.size : Int) - 1 < s.size := by omega
  have ht : c.tmod 8 = c % 8 := Int.tmod_eq_emod_of_nonneg h2
  have hw1 : IntKind.i64.wrap ((s.size : Int) - 1) = (s.size : Int) - 1 := by rw [IntKind.wrap_i64]; omega
  have hix := index_last s d6
  have hlt := last_lt s
  clear h4 hc
  go_enter Try.func59, Try.ntmps59
  go_wp2
  go_quiet ((go_at_call 49; exact Calls.quiet_of_same (pow_int _ _ (by omega) (by omega))))
  go_wp2
  go_ret
  exact ⟨rfl, (below_alloc1 _ _).trans (below_draws _ _ _)⟩

set_option maxHeartbeats 400000 in
theorem specOut_no (s : ByteArray) (c : Int) (w : World) (hs : s.size ≤ maxLen) (hc1 : -9223372036854775808 ≤ c) (hc2 : c ≤ 9223372036854775807) (h : ¬ Fits s c) :
    Calls Try.prog 59 #[.agg #[.string s, .int .i64 c]] w fun e w' => e = .returned (.bool false) ∧ Below w.heap.size w w' := by
  unfold maxLen at hs
  unfold Fits at h
  by_cases h1 : (12000 : Int) < s.size
  · clear h
    go_enter Try.func59, Try.ntmps59
    go_wp2
    go_ret
    exact ⟨rfl, below_alloc1 _ _⟩
  · have d1 : decide ((12000 : Int) < s.size) = false := by simpa using h1
    by_cases h2 : c < 0
    · clear h
      go_enter Try.func59, Try.ntmps59
      go_wp2
      go_ret
      exact ⟨rfl, below_alloc1 _ _⟩
    · have d2 : decide (c < 0) = false := by simpa using h2
      by_cases h3 : 8 * (s.size : Int) < c
      · clear h
        go_enter Try.func59, Try.ntmps59
        go_wp2
        go_ret
        exact ⟨rfl, below_alloc1 _ _⟩
      · have d3 : decide (8 * (s.size : Int) < c) = false := by simpa using h3
        have d4 : ((c + 7) / 8 != (s.size : Int)) = true := by rw [bne_iff_ne]; omega
        clear h
        go_enter Try.func59, Try.ntmps59
        go_wp2
        go_ret
        exact ⟨rfl, below_alloc1 _ _⟩

theorem specOut_any (s : ByteArray) (c : Int) (w : World) (hs : s.size ≤ maxLen) (hc1 : -9223372036854775808 ≤ c) (hc2 : c ≤ 9223372036854775807) :
    Calls Try.prog 59 #[.agg #[.string s, .int .i64 c]] w fun e w' => e = .returned (.bool (outB s c)) ∧ Below w.heap.size w w' := by
  by_cases h : Fits s c
  · by_cases hc : c % 8 = 0
    · rw [outB_fit0 s c h hc]; exact specOut_fit0 s c w h hc
    · rw [outB_fit1 s c h hc]; exact specOut_fit1 s c w h hc
  · rw [outB_no s c h]; exact specOut_no s c w hs hc1 hc2 h

end Go.Proofs.Ytbcnlggkoidmmaa
