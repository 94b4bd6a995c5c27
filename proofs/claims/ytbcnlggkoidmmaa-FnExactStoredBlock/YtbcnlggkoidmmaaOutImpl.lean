/-
  The walks of the program's test of a right Out.
-/
import Derived.Test.YtbcnlggkoidmmaaRows
import Derived.Test.YtbcnlggkoidmmaaOutMath
import Derived.Test.YtbcnlggkoidmmaaRetLib
import Derived.Test.YtbcnlggkoidmmaaOutIndex
import Derived.WalkKit
import Derived.ProofKit
import Derived.WalkLawsBesides
import Derived.Deep.QuietTactic
import Derived.BigQuiet
import Derived.Lib.SmallJoins
namespace Go.Proofs.Ytbcnlggkoidmmaa
open Go.RowKit Go.Joins OutMath

theorem bytesFor_any (c : Int) (w : World) (h1 : 0 ≤ c) (h2 : c ≤ 96000) :
    Calls Try.prog 82 #[.int .i64 c] w fun e w' => e = .returned (.int .i64 ((c + 7) / 8)) ∧ w' = w := by
  go_enter Try.func82, Try.ntmps82
  go_wp2
  go_ret
  exact ⟨rfl, rfl⟩

set_option maxHeartbeats 400000 in
theorem implOut_fit0 (s : ByteArray) (c : Int) (w : World) (h : Fits s c) (hc : c % 8 = 0) :
    Calls Try.prog 62 #[.agg #[.string s, .int .i64 c]] w fun e w' => e = .returned (.bool true) ∧ Below w.heap.size w w' := by
  obtain ⟨h1, h2, h3, h4⟩ := h
  have d2 : decide (c < 0) = false := by simp; omega
  have d3 : decide ((96000 : Int) < c) = false := by simp; omega
  have d4 : ((s.size : Int) != (c + 7) / 8) = false := by simp; omega
  have d5 : (c % 8 == 0) = true := by simp; omega
  have ht : c.tmod 8 = c % 8 := Int.tmod_eq_emod_of_nonneg h2
  have hc9 : c ≤ 96000 := by omega
  clear h4 hc
  go_enter Try.func62, Try.ntmps62
  go_wp2
  go_quiet ((go_at_call 82; exact Calls.quiet_of_same (bytesFor_any _ _ (by omega) (by omega))))
  go_wp2
  go_ret
  exact ⟨rfl, (below_alloc1 _ _).trans (below_draws _ _ _)⟩

set_option maxHeartbeats 400000 in
theorem implOut_fit1 (s : ByteArray) (c : Int) (w : World) (h : Fits s c) (hc : ¬ c % 8 = 0) :
    Calls Try.prog 62 #[.agg #[.string s, .int .i64 c]] w fun e w' => e = .returned (.bool (lastOk s c)) ∧ Below w.heap.size w w' := by
  obtain ⟨h1, h2, h3, h4⟩ := h
  have d2 : decide (c < 0) = false := by simp; omega
  have d3 : decide ((96000 : Int) < c) = false := by simp; omega
  have d4 : ((s.size : Int) != (c + 7) / 8) = false := by simp; omega
  have d5 : (c % 8 == 0) = false := by simp; omega
  have d6 : 0 < s.size := by omega
  have ht : c.tmod 8 = c % 8 := Int.tmod_eq_emod_of_nonneg h2
  have hc9 : c ≤ 96000 := by omega
  have hix := index_last s d6
  have hlt := last_lt s
  have hlo := lastOk_div s c
  clear h4 hc
  go_enter Try.func62, Try.ntmps62
  go_wp2
  go_quiet ((go_at_call 82; exact Calls.quiet_of_same (bytesFor_any _ _ (by omega) (by omega))))
  have HL : Hid (lastOk s c = (((last s : Nat) : Int) / 2 ^ (c % 8).toNat == 0)) := hlo
  clear hlo
  go_wp2
  go_ret
  exact ⟨ret_b HL.out.symm, (below_alloc1 _ _).trans (below_draws _ _ _)⟩

set_option maxHeartbeats 400000 in
theorem implOut_no (s : ByteArray) (c : Int) (w : World) (hs : s.size ≤ maxLen) (hc1 : -9223372036854775808 ≤ c) (hc2 : c ≤ 9223372036854775807) (h : ¬ Fits s c) :
    Calls Try.prog 62 #[.agg #[.string s, .int .i64 c]] w fun e w' => e = .returned (.bool false) ∧ Below w.heap.size w w' := by
  unfold maxLen at hs
  unfold Fits at h
  by_cases h2 : c < 0
  · have d2 : decide (c < 0) = true := by simpa using h2
    clear h
    go_enter Try.func62, Try.ntmps62
    go_wp2
    go_quiet (fail)
    go_wp2
    go_ret
    exact ⟨rfl, (below_alloc1 _ _).trans (below_draws _ _ _)⟩
  · have d2 : decide (c < 0) = false := by simpa using h2
    by_cases h3 : (96000 : Int) < c
    · have d3 : decide ((96000 : Int) < c) = true := by simpa using h3
      clear h
      go_enter Try.func62, Try.ntmps62
      go_wp2
      go_quiet (fail)
      go_wp2
      go_ret
      exact ⟨rfl, (below_alloc1 _ _).trans (below_draws _ _ _)⟩
    · have d3 : decide ((96000 : Int) < c) = false := by simpa using h3
      have d4 : ((s.size : Int) != (c + 7) / 8) = true := by rw [bne_iff_ne]; omega
      clear h
      go_enter Try.func62, Try.ntmps62
      go_wp2
      go_quiet ((go_at_call 82; exact Calls.quiet_of_same (bytesFor_any _ _ (by omega) (by omega))))
      go_wp2
      go_ret
      exact ⟨rfl, (below_alloc1 _ _).trans (below_draws _ _ _)⟩

theorem implOut_any (s : ByteArray) (c : Int) (w : World) (hs : s.size ≤ maxLen) (hc1 : -9223372036854775808 ≤ c) (hc2 : c ≤ 9223372036854775807) :
    Calls Try.prog 62 #[.agg #[.string s, .int .i64 c]] w fun e w' => e = .returned (.bool (outB s c)) ∧ Below w.heap.size w w' := by
  by_cases h : Fits s c
  · by_cases hc : c % 8 = 0
    · rw [outB_fit0 s c h hc]; exact implOut_fit0 s c w h hc
    · rw [outB_fit1 s c h hc]; exact implOut_fit1 s c w h hc
  · rw [outB_no s c h]; exact implOut_no s c w hs hc1 hc2 h

end Go.Proofs.Ytbcnlggkoidmmaa
