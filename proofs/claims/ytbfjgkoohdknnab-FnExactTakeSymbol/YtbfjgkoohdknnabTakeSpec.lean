/-
  The walk of TakeBits in the document's model.
-/
import Derived.Test.YtbfjgkoohdknnabRows
import Derived.Test.YtbfjgkoohdknnabBase
import Derived.Test.YtbfjgkoohdknnabOutMath
import Derived.Test.YtbfjgkoohdknnabPowWalks
import Derived.Test.YtbfjgkoohdknnabInWalks
import Derived.Test.YtbfjgkoohdknnabTakeMath
import Derived.Test.YtbfjgkoohdknnabTakeHelp
import Derived.WalkKit
import Derived.ProofKit
import Derived.WalkLawsBesides
import Derived.RegionTactic
import Derived.Deep.QuietTactic
import Derived.BigQuiet
import Derived.Lib.SmallJoins
namespace Go.Proofs.Ytbfjgkoohdknnab
open Go.RowKit Go.Joins OutMath TakeMath

set_option maxHeartbeats 400000 in
theorem specTake_yes (s : ByteArray) (a n : Nat) (w : World) (h1 : s.size ≤ 12000) (h2 : n ≤ 24) (h3 : a + n ≤ 8 * s.size) :
    Calls Try.prog 37 #[.agg #[.string s, .int .i64 a], .int .i64 n] w fun e w' => e = .returned (.tuple #[.int .i64 (num s a n), .agg #[.string s, .int .i64 (a + n)], .bool true]) ∧ Below w.heap.size w w' := by
  have d1 : decide ((12000 : Int) < s.size) = false := by simp; omega
  have d2 : decide ((a : Int) < 0) = false := by simp
  have d3 : decide (8 * (s.size : Int) - (n : Int) < (a : Int)) = false := by simp; omega
  go_enter Try.func37, Try.ntmps37
  go_wp2_with fail
  refine (in_yes _ _ _ _ (by omega) (by omega)).mono ?_
  rintro e w1 ⟨rfl, rfl⟩
  go_wp2_with fail
  have hB0 : Below w.heap.size w ((w.alloc (.cells #[.string s, .int .i64 a] 36)).alloc (.cells #[.string ⟨#[]⟩, .int .i64 0] 36)) := bal (bstart _ _) _
  go_loopw [7, 8] (fun x k w' => ∃ j : Nat, j ≤ n ∧ k = .int .i64 j ∧ x = .int .i64 (num s a j) ∧ Below ((w.alloc (.cells #[.string s, .int .i64 a] 36)).alloc (.cells #[.string ⟨#[]⟩, .int .i64 0] 36)).heap.size ((w.alloc (.cells #[.string s, .int .i64 a] 36)).alloc (.cells #[.string ⟨#[]⟩, .int .i64 0] 36)) w') (fun _ k _ => n - (intOf k).toNat)
  case atStart => exact ⟨0, Nat.zero_le _, rfl, rfl, Below.refl _ _⟩
  case round =>
    obtain ⟨j, hj, rfl, rfl, hB⟩ := hrel
    obtain ⟨k1, f1⟩ := bcell hB
    have hz : w.heap.size + 1 < wr.heap.size := by have := hB.size; simp at this; omega
    have hb := num_bd s a j
    have hp := p2_pos j
    have hp4 := p2_24 (n := j) (by omega)
    by_cases hlt : j < n
    · have hix := index_byteI s (((a : Int) + (j : Int)) / 8) ((a + j) / 8) (by omega) (by omega)
      have hy := byteAt_lt s ((a + j) / 8)
      have q1 : ((a : Int) + (j : Int)).tdiv 8 = ((a : Int) + (j : Int)) / 8 := Int.tdiv_eq_ediv_of_nonneg (by omega)
      have q2 : ((a : Int) + (j : Int)).tmod 8 = ((a : Int) + (j : Int)) % 8 := Int.tmod_eq_emod_of_nonneg (by omega)
      have q3 : IntKind.i64.wrap (((a : Int) + (j : Int)) / 8) = ((a : Int) + (j : Int)) / 8 := by rw [IntKind.wrap_i64]; omega
      have hq := p2_pos (((a : Int) + (j : Int)) % 8).toNat
      have hw := bit_walk s (a + j)
      have hm := mul01 _ _ (bit_01 s (a + j)).1 (bit_01 s (a + j)).2 hp
      have HN : Hid (num s a (j + 1) = num s a j + bit s (a + j) * p2 j) := rfl
      go_wp2_with fail
      go_quiet ((go_at_call 36; exact Calls.quiet_of_same (pow_int _ _ (by omega) (by omega))))
      go_wp2_with fail
      refine (pow_any j _ (by omega)).mono ?_
      rintro e w1 ⟨rfl, rfl⟩
      go_wp2_with fail
      go_roundw
      case rel => exact ⟨j + 1, by omega, by go_num, by rw [HN.out], bdraws hB _⟩
      case measure => simp [intOf]; omega
    · obtain rfl : j = n := by omega
      have hw8 : IntKind.i64.wrap ((a : Int) + (j : Int)) = (a : Int) + (j : Int) := by rw [IntKind.wrap_i64]; omega
      have hBB : Below w.heap.size w wr := bnext hB0 hB
      go_wp2_with fail
      go_region
      all_goals
        go_wp2
        refine bodyPost_ret (v := .tuple #[.int .i64 (num s a j), .agg #[.string s, .int .i64 (a + j)], .bool true]) (by simp [results, Try.results37, go_sem, k1]) rfl ⟨rfl, ?_⟩
        refine Below.drew (Below.setCell (Below.setCell hBB ?_ _) ?_ _)
        · simp
        · simp

set_option maxHeartbeats 400000 in
theorem specTake_no (s : ByteArray) (a n : Int) (w : World) (hs : s.size ≤ maxLen) (h : ¬ (0 ≤ n ∧ n ≤ 24 ∧ s.size ≤ 12000 ∧ 0 ≤ a ∧ a + n ≤ 8 * s.size)) :
    Calls Try.prog 37 #[.agg #[.string s, .int .i64 a], .int .i64 n] w fun e w' => e = .returned (.tuple #[.int .i64 0, .agg #[.string ⟨#[]⟩, .int .i64 0], .bool false]) ∧ Below w.heap.size w w' := by
  unfold maxLen at hs
  by_cases h0 : 0 ≤ n ∧ n ≤ 24
  · obtain ⟨h1, h2⟩ := h0
    by_cases h3 : (12000 : Int) < s.size
    · clear h
      go_enter Try.func37, Try.ntmps37
      go_wp2_with fail
      refine (in_yes _ _ _ _ (by omega) (by omega)).mono ?_
      rintro e w1 ⟨rfl, rfl⟩
      go_wp2_with fail
      refine bodyPost_ret (v := .tuple #[.int .i64 0, .agg #[.string ⟨#[]⟩, .int .i64 0], .bool false]) (by simp [results, Try.results37, go_sem]) rfl ⟨rfl, bal (bstart _ _) _⟩
    · have d1 : decide ((12000 : Int) < s.size) = false := by simpa using h3
      by_cases h4 : a < 0
      · clear h
        go_enter Try.func37, Try.ntmps37
        go_wp2_with fail
        refine (in_yes _ _ _ _ (by omega) (by omega)).mono ?_
        rintro e w1 ⟨rfl, rfl⟩
        go_wp2_with fail
        refine bodyPost_ret (v := .tuple #[.int .i64 0, .agg #[.string ⟨#[]⟩, .int .i64 0], .bool false]) (by simp [results, Try.results37, go_sem]) rfl ⟨rfl, bal (bstart _ _) _⟩
      · have d2 : decide (a < 0) = false := by simpa using h4
        have d3 : 8 * (s.size : Int) - n < a := by omega
        clear h
        go_enter Try.func37, Try.ntmps37
        go_wp2_with fail
        refine (in_yes _ _ _ _ (by omega) (by omega)).mono ?_
        rintro e w1 ⟨rfl, rfl⟩
        go_wp2_with fail
        refine bodyPost_ret (v := .tuple #[.int .i64 0, .agg #[.string ⟨#[]⟩, .int .i64 0], .bool false]) (by simp [results, Try.results37, go_sem]) rfl ⟨rfl, bal (bstart _ _) _⟩
  · have H : Hid (¬ (0 ≤ n ∧ n ≤ 24)) := h0
    clear h h0
    go_enter Try.func37, Try.ntmps37
    go_wp2_with fail
    refine (in_no _ _ _ _ H.out).mono ?_
    rintro e w1 ⟨rfl, rfl⟩
    go_wp2_with fail
    refine bodyPost_ret (v := .tuple #[.int .i64 0, .agg #[.string ⟨#[]⟩, .int .i64 0], .bool false]) (by simp [results, Try.results37, go_sem]) rfl ⟨rfl, bal (bstart _ _) _⟩
end Go.Proofs.Ytbfjgkoohdknnab
