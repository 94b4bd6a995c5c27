/-
  The walks of what tells a right Out, in the document's model and in the program.
-/
import Derived.Test.YtdjpjdjljobalaaRows
import Derived.Test.YtdjpjdjljobalaaOutMath
import Derived.WalkKit
import Derived.ProofKit
import Derived.WalkLawsBesides
import Derived.Deep.QuietTactic
import Derived.BigQuiet
import Derived.Lib.SmallJoins
namespace Go.Proofs.Ytdjpjdjljobalaa
open Go.RowKit Go.Joins OutMath

theorem ret_i {k : IntKind} {a b : Int} (h : a = b) : Ending.returned (.int k a) = .returned (.int k b) := by rw [h]

theorem ret_b {a b : Bool} (h : a = b) : Ending.returned (.bool a) = .returned (.bool b) := by rw [h]

set_option maxHeartbeats 400000 in
theorem pow_any (n : Nat) (w : World) (h : n ≤ 61) :
    Calls Try.prog 34 #[.int .i64 n] w fun e w' => e = .returned (.int .i64 (p2 n)) ∧ w' = w := by
  go_enter Try.func34, Try.ntmps34
  go_wp2
  go_loop [3, 4] (fun x i => ∃ j : Nat, j ≤ n ∧ i = .int .i64 j ∧ x = .int .i64 (p2 j)) (fun _ i => n - (intOf i).toNat)
  case atStart => exact ⟨0, Nat.zero_le _, rfl, by rw [p2_zero]⟩
  case round =>
    obtain ⟨j, hj, rfl, rfl⟩ := hrel
    have hp := p2_pos j
    have hq := p2_61 (n := j) (by omega)
    by_cases hlt : j < n
    · go_wp2
      go_round
      case rel => exact ⟨j + 1, by omega, by go_num, by rw [p2_succ]⟩
      case measure => simp [intOf]; omega
    · go_wp2
      go_ret
      exact ⟨ret_i (by rw [show j = n by omega]), rfl⟩

theorem pow_int (n : Int) (w : World) (h0 : 0 ≤ n) (h : n ≤ 61) :
    Calls Try.prog 34 #[.int .i64 n] w fun e w' => e = .returned (.int .i64 (p2 n.toNat)) ∧ w' = w := by
  obtain ⟨m, rfl⟩ := Int.eq_ofNat_of_zero_le h0
  exact pow_any m w (by omega)

theorem szOut_ok (s : ByteArray) (c x : Int) (w : World) (h0 : 0 ≤ x) (h1 : x ≤ 1048576) (h : (s.size : Int) ≤ x) :
    Calls Try.prog 28 #[.agg #[.string s, .int .i64 c], .int .i64 x] w fun e w' => e = .returned (.int .i64 (x - s.size)) ∧ Below w.heap.size w w' := by
  have d : ¬ x - (s.size : Int) < 0 := by omega
  go_enter Try.func28, Try.ntmps28
  go_wp2
  go_ret
  exact ⟨rfl, (Below.refl _ _).alloc (Nat.le_refl _) _⟩

theorem szOut_no (s : ByteArray) (c x : Int) (w : World) (hs : s.size ≤ maxLen) (h0 : 0 ≤ x) (h1 : x ≤ 1048576) (h : x < (s.size : Int)) :
    Calls Try.prog 28 #[.agg #[.string s, .int .i64 c], .int .i64 x] w fun e w' => e = .returned (.int .i64 (-1)) ∧ Below w.heap.size w w' := by
  unfold maxLen at hs
  have d : x - (s.size : Int) < 0 := by omega
  go_enter Try.func28, Try.ntmps28
  go_wp2
  go_ret
  exact ⟨rfl, (Below.refl _ _).alloc (Nat.le_refl _) _⟩

theorem toOut_any (s : ByteArray) (c : Int) (w : World) :
    Calls Try.prog 29 #[.agg #[.string s, .int .i64 c]] w fun e w' => e = .returned (.agg #[.string s, .int .i64 c]) ∧ Below w.heap.size w w' := by
  go_enter Try.func29, Try.ntmps29
  go_wp2
  exact bodyPost_ret (v := .agg #[.string s, .int .i64 c]) (by simp [results, Try.results29, go_sem]) rfl ⟨rfl, below_alloc3 _ _ _ _⟩

theorem eqOut_same (s : ByteArray) (c : Int) (w : World) :
    Calls Try.prog 31 #[.agg #[.string s, .int .i64 c], .agg #[.string s, .int .i64 c]] w fun e w' => e = .returned (.bool true) ∧ Below w.heap.size w w' := by
  go_enter Try.func31, Try.ntmps31
  go_wp2
  go_ret
  exact ⟨rfl, below_alloc2 _ _ _⟩

theorem index_last (s : ByteArray) (h : 0 < s.size) (w : World) : (Instr.index 9 (.string s) (.int .i64 ((s.size : Int) - 1))).run Try.prog w = .ok (.int .u8 (last s)) w := by
  rw [run_index_string w 9 s .i64 _ Try.underlying9, dif_pos ⟨by omega, by omega⟩]
  have e : ((s.size : Int) - 1).toNat = s.size - 1 := by omega
  simp only [e]
  rw [last_at]

set_option maxHeartbeats 400000 in
theorem specOut_fit0 (s : ByteArray) (c : Int) (w : World) (h : Fits s c) (hc : c % 8 = 0) :
    Calls Try.prog 17 #[.agg #[.string s, .int .i64 c]] w fun e w' => e = .returned (.bool true) ∧ Below w.heap.size w w' := by
  obtain ⟨h1, h2, h3, h4⟩ := h
  have d1 : decide ((12000 : Int) < s.size) = false := by simp; omega
  have d2 : decide (c < 0) = false := by simp; omega
  have d3 : decide (8 * (s.size : Int) < c) = false := by simp; omega
  have d4 : ((c + 7) / 8 != (s.size : Int)) = false := by simp; omega
  have d5 : (c % 8 == 0) = true := by simp; omega
  clear h4 hc
  go_enter Try.func17, Try.ntmps17
  go_wp2
  go_quiet (fail)
  go_wp2
  go_ret
  exact ⟨rfl, (below_alloc1 _ _).trans (below_draws _ _ _)⟩

set_option maxHeartbeats 400000 in
theorem specOut_fit1 (s : ByteArray) (c : Int) (w : World) (h : Fits s c) (hc : ¬ c % 8 = 0) :
    Calls Try.prog 17 #[.agg #[.string s, .int .i64 c]] w fun e w' => e = .returned (.bool (lastOk s c)) ∧ Below w.heap.size w w' := by
  obtain ⟨h1, h2, h3, h4⟩ := h
  have d1 : decide ((12000 : Int) < s.size) = false := by simp; omega
  have d2 : decide (c < 0) = false := by simp; omega
  have d3 : decide (8 * (s.size : Int) < c) = false := by simp; omega
  have d4 : ((c + 7) / 8 != (s.size : Int)) = false := by simp; omega
  have d5 : (c % 8 == 0) = false := by simp; omega
  have d6 : 0 < s.size := by omega
  have d7 : (0 : Int) ≤ (s.size : Int) - 1 ∧ (s.size : Int) - 1 < s.size := by omega
  have ht : c.tmod 8 = c % 8 := Int.tmod_eq_emod_of_nonneg h2
  have hw1 : IntKind.i64.wrap ((s.size : Int) - 1) = (s.size : Int) - 1 := by rw [IntKind.wrap_i64]; omega
  have hix := index_last s d6
  have hlt := last_lt s
  clear h4 hc
  go_enter Try.func17, Try.ntmps17
  go_wp2
  go_quiet ((go_at_call 34; exact Calls.quiet_of_same (pow_int _ _ (by omega) (by omega))))
  go_wp2
  go_ret
  exact ⟨rfl, (below_alloc1 _ _).trans (below_draws _ _ _)⟩

set_option maxHeartbeats 400000 in
theorem specOut_no (s : ByteArray) (c : Int) (w : World) (hs : s.size ≤ maxLen) (hc1 : -9223372036854775808 ≤ c) (hc2 : c ≤ 9223372036854775807) (h : ¬ Fits s c) :
    Calls Try.prog 17 #[.agg #[.string s, .int .i64 c]] w fun e w' => e = .returned (.bool false) ∧ Below w.heap.size w w' := by
  unfold maxLen at hs
  unfold Fits at h
  by_cases h1 : (12000 : Int) < s.size
  · clear h
    go_enter Try.func17, Try.ntmps17
    go_wp2
    go_ret
    exact ⟨rfl, below_alloc1 _ _⟩
  · have d1 : decide ((12000 : Int) < s.size) = false := by simpa using h1
    by_cases h2 : c < 0
    · clear h
      go_enter Try.func17, Try.ntmps17
      go_wp2
      go_ret
      exact ⟨rfl, below_alloc1 _ _⟩
    · have d2 : decide (c < 0) = false := by simpa using h2
      by_cases h3 : 8 * (s.size : Int) < c
      · clear h
        go_enter Try.func17, Try.ntmps17
        go_wp2
        go_ret
        exact ⟨rfl, below_alloc1 _ _⟩
      · have d3 : decide (8 * (s.size : Int) < c) = false := by simpa using h3
        have d4 : ((c + 7) / 8 != (s.size : Int)) = true := by rw [bne_iff_ne]; omega
        clear h
        go_enter Try.func17, Try.ntmps17
        go_wp2
        go_ret
        exact ⟨rfl, below_alloc1 _ _⟩

theorem bytesFor_any (c : Int) (w : World) (h1 : 0 ≤ c) (h2 : c ≤ 96000) :
    Calls Try.prog 39 #[.int .i64 c] w fun e w' => e = .returned (.int .i64 ((c + 7) / 8)) ∧ w' = w := by
  go_enter Try.func39, Try.ntmps39
  go_wp2
  go_ret
  exact ⟨rfl, rfl⟩

set_option maxHeartbeats 400000 in
theorem implOut_fit0 (s : ByteArray) (c : Int) (w : World) (h : Fits s c) (hc : c % 8 = 0) :
    Calls Try.prog 12 #[.agg #[.string s, .int .i64 c]] w fun e w' => e = .returned (.bool true) ∧ Below w.heap.size w w' := by
  obtain ⟨h1, h2, h3, h4⟩ := h
  have d2 : decide (c < 0) = false := by simp; omega
  have d3 : decide ((96000 : Int) < c) = false := by simp; omega
  have d4 : ((s.size : Int) != (c + 7) / 8) = false := by simp; omega
  have d5 : (c % 8 == 0) = true := by simp; omega
  have ht : c.tmod 8 = c % 8 := Int.tmod_eq_emod_of_nonneg h2
  have hc9 : c ≤ 96000 := by omega
  clear h4 hc
  go_enter Try.func12, Try.ntmps12
  go_wp2
  go_quiet ((go_at_call 39; exact Calls.quiet_of_same (bytesFor_any _ _ (by omega) (by omega))))
  go_wp2
  go_ret
  exact ⟨rfl, (below_alloc1 _ _).trans (below_draws _ _ _)⟩

set_option maxHeartbeats 400000 in
theorem implOut_fit1 (s : ByteArray) (c : Int) (w : World) (h : Fits s c) (hc : ¬ c % 8 = 0) :
    Calls Try.prog 12 #[.agg #[.string s, .int .i64 c]] w fun e w' => e = .returned (.bool (lastOk s c)) ∧ Below w.heap.size w w' := by
  obtain ⟨h1, h2, h3, h4⟩ := h
  have d2 : decide (c < 0) = false := by simp; omega
  have d3 : decide ((96000 : Int) < c) = false := by simp; omega
  have d4 : ((s.size : Int) != (c + 7) / 8) = false := by simp; omega
  have d5 : (c % 8 == 0) = false := by simp; omega
  have d6 : 0 < s.size := by omega
  have ht : c.tmod 8 = c % 8 := Int.tmod_eq_emod_of_nonneg h2
  have hc9 : c ≤ 96000 := by omega
  have hix := index_last s d6
  have hlt := last_lt s
  have hlo := lastOk_div s c
  clear h4 hc
  go_enter Try.func12, Try.ntmps12
  go_wp2
  go_quiet ((go_at_call 39; exact Calls.quiet_of_same (bytesFor_any _ _ (by omega) (by omega))))
  have HL : Hid (lastOk s c = (((last s : Nat) : Int) / 2 ^ (c % 8).toNat == 0)) := hlo
  clear hlo
  go_wp2
  go_ret
  exact ⟨ret_b HL.out.symm, (below_alloc1 _ _).trans (below_draws _ _ _)⟩

set_option maxHeartbeats 400000 in
theorem implOut_no (s : ByteArray) (c : Int) (w : World) (hs : s.size ≤ maxLen) (hc1 : -9223372036854775808 ≤ c) (hc2 : c ≤ 9223372036854775807) (h : ¬ Fits s c) :
    Calls Try.prog 12 #[.agg #[.string s, .int .i64 c]] w fun e w' => e = .returned (.bool false) ∧ Below w.heap.size w w' := by
  unfold maxLen at hs
  unfold Fits at h
  by_cases h2 : c < 0
  · have d2 : decide (c < 0) = true := by simpa using h2
    clear h
    go_enter Try.func12, Try.ntmps12
    go_wp2
    go_quiet (fail)
    go_wp2
    go_ret
    exact ⟨rfl, (below_alloc1 _ _).trans (below_draws _ _ _)⟩
  · have d2 : decide (c < 0) = false := by simpa using h2
    by_cases h3 : (96000 : Int) < c
    · have d3 : decide ((96000 : Int) < c) = true := by simpa using h3
      clear h
      go_enter Try.func12, Try.ntmps12
      go_wp2
      go_quiet (fail)
      go_wp2
      go_ret
      exact ⟨rfl, (below_alloc1 _ _).trans (below_draws _ _ _)⟩
    · have d3 : decide ((96000 : Int) < c) = false := by simpa using h3
      have d4 : ((s.size : Int) != (c + 7) / 8) = true := by rw [bne_iff_ne]; omega
      clear h
      go_enter Try.func12, Try.ntmps12
      go_wp2
      go_quiet ((go_at_call 39; exact Calls.quiet_of_same (bytesFor_any _ _ (by omega) (by omega))))
      go_wp2
      go_ret
      exact ⟨rfl, (below_alloc1 _ _).trans (below_draws _ _ _)⟩

theorem specOut_any (s : ByteArray) (c : Int) (w : World) (hs : s.size ≤ maxLen) (hc1 : -9223372036854775808 ≤ c) (hc2 : c ≤ 9223372036854775807) :
    Calls Try.prog 17 #[.agg #[.string s, .int .i64 c]] w fun e w' => e = .returned (.bool (outB s c)) ∧ Below w.heap.size w w' := by
  by_cases h : Fits s c
  · by_cases hc : c % 8 = 0
    · rw [outB_fit0 s c h hc]; exact specOut_fit0 s c w h hc
    · rw [outB_fit1 s c h hc]; exact specOut_fit1 s c w h hc
  · rw [outB_no s c h]; exact specOut_no s c w hs hc1 hc2 h

theorem implOut_any (s : ByteArray) (c : Int) (w : World) (hs : s.size ≤ maxLen) (hc1 : -9223372036854775808 ≤ c) (hc2 : c ≤ 9223372036854775807) :
    Calls Try.prog 12 #[.agg #[.string s, .int .i64 c]] w fun e w' => e = .returned (.bool (outB s c)) ∧ Below w.heap.size w w' := by
  by_cases h : Fits s c
  · by_cases hc : c % 8 = 0
    · rw [outB_fit0 s c h hc]; exact implOut_fit0 s c w h hc
    · rw [outB_fit1 s c h hc]; exact implOut_fit1 s c w h hc
  · rw [outB_no s c h]; exact implOut_no s c w hs hc1 hc2 h
end Go.Proofs.Ytdjpjdjljobalaa
