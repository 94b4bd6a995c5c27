/-
  The walks of ReadBig in the program.
-/
import Derived.Test.YtcnlcbkgbcnloaaRows
import Derived.Test.YtcnlcbkgbcnloaaBigMath
import Derived.Test.YtcnlcbkgbcnloaaSizeWalks
import Derived.WalkKit
import Derived.ProofKit
import Derived.WalkLawsBesides
namespace Go.Proofs.Ytcnlcbkgbcnloaa
open Go.RowKit BigMath

theorem ret_pair {a b : Int} {c : Bool} (h : a = b) : Ending.returned (.tuple #[.int .i64 a, .bool c]) = .returned (.tuple #[.int .i64 b, .bool c]) := by rw [h]

set_option maxHeartbeats 400000 in
theorem implRead_yes (s : ByteArray) (a k : Nat) (w : World) (hs : s.size ≤ 1048576) (h1 : 1 ≤ k) (h4 : k ≤ 4) (ha : a + k ≤ s.size) :
    Calls Try.prog 67 #[.string s, .int .i64 a, .int .i64 k] w fun e w' => e = .returned (.tuple #[.int .i64 (rb s a k), .bool true]) ∧ w' = w := by
  have d1 : decide ((a : Int) < 0) = false := by simp
  have d2 : decide ((s.size : Int) - (k : Int) < (a : Int)) = false := by simp; omega
  go_enter Try.func67, Try.ntmps67
  go_wp2_with (go_at_call 74; refine (size_yes _ _ ?_ ?_).mono ?_; omega; omega; rintro e w' ⟨rfl, rfl⟩)
  go_loop [8, 26] (fun n i => ∃ j : Nat, j ≤ k ∧ i = .int .i64 j ∧ n = .int .i64 (rb s a j)) (fun _ i => k - (intOf i).toNat)
  case atStart => exact ⟨0, Nat.zero_le _, rfl, rfl⟩
  case round =>
    obtain ⟨j, hj, rfl, rfl⟩ := hrel
    by_cases hlt : j < k
    · have hb := rb_lt3 s a j (by omega)
      have hu : (s[a + j]'(by omega)).toNat < 256 := UInt8.toNat_lt _
      have HS : Hid (rb s a (j + 1) = 256 * rb s a j + ((s[a + j]'(by omega)).toNat : Int)) := rb_succ s a j (by omega)
      have HO : Hid (bits .or .i64 (rb s a j * 256) ((s[a + j]'(by omega)).toNat : Int) = 256 * rb s a j + ((s[a + j]'(by omega)).toNat : Int)) := or_byte _ _ hb.1 hb.2 hu
      go_wp2
      go_round
      case rel => exact ⟨j + 1, by omega, by go_num, by rw [HS.out, HO.out]⟩
      case measure => simp [intOf]; omega
    · go_wp2
      go_ret2
      exact ⟨ret_pair (by rw [show j = k by omega]), rfl⟩

set_option maxHeartbeats 400000 in
theorem implRead_no (s : ByteArray) (a k : Int) (w : World) (hs : s.size ≤ 1048576) (hk1 : -9223372036854775808 ≤ k) (hk2 : k ≤ 9223372036854775807) (ha1 : -9223372036854775808 ≤ a) (ha2 : a ≤ 9223372036854775807) (h : ¬ (1 ≤ k ∧ k ≤ 4 ∧ 0 ≤ a ∧ a + k ≤ s.size)) :
    Calls Try.prog 67 #[.string s, .int .i64 a, .int .i64 k] w fun e w' => e = .returned (.tuple #[.int .i64 0, .bool false]) ∧ w' = w := by
  by_cases h1 : 1 ≤ k ∧ k ≤ 4
  · obtain ⟨h2, h3⟩ := h1
    by_cases h4 : 0 ≤ a
    · have h5 : (s.size : Int) - k < a := by omega
      have d1 : decide (a < 0) = false := by simp; omega
      clear h
      go_enter Try.func67, Try.ntmps67
      go_wp2_with (go_at_call 74; refine (size_yes _ _ ?_ ?_).mono ?_; omega; omega; rintro e w' ⟨rfl, rfl⟩)
      go_ret2
      exact ⟨rfl, rfl⟩
    · have d1 : a < 0 := by omega
      clear h
      go_enter Try.func67, Try.ntmps67
      go_wp2_with (go_at_call 74; refine (size_yes _ _ ?_ ?_).mono ?_; omega; omega; rintro e w' ⟨rfl, rfl⟩)
      go_ret2
      exact ⟨rfl, rfl⟩
  · clear h
    go_enter Try.func67, Try.ntmps67
    go_wp2_with (go_at_call 74; refine (size_no _ _ ?_).mono ?_; omega; rintro e w' ⟨rfl, rfl⟩)
    go_ret2
    exact ⟨rfl, rfl⟩

theorem implRead_some (s : ByteArray) (a k : Int) (w : World) (hs : s.size ≤ 1048576) (hk1 : -9223372036854775808 ≤ k) (hk2 : k ≤ 9223372036854775807) (ha1 : -9223372036854775808 ≤ a) (ha2 : a ≤ 9223372036854775807) :
    Calls Try.prog 67 #[.string s, .int .i64 a, .int .i64 k] w fun e w' => ∃ (m : Int) (ok : Bool), e = .returned (.tuple #[.int .i64 m, .bool ok]) ∧ w' = w := by
  by_cases h : 1 ≤ k ∧ k ≤ 4 ∧ 0 ≤ a ∧ a + k ≤ s.size
  · obtain ⟨h1, h2, h3, h4⟩ := h
    obtain ⟨k, rfl⟩ := Int.eq_ofNat_of_zero_le (show 0 ≤ k by omega)
    obtain ⟨a, rfl⟩ := Int.eq_ofNat_of_zero_le h3
    refine (implRead_yes s a k w hs (by omega) (by omega) (by omega)).mono ?_
    rintro e w1 ⟨rfl, rfl⟩
    exact ⟨_, _, rfl, rfl⟩
  · refine (implRead_no s a k w hs hk1 hk2 ha1 ha2 h).mono ?_
    rintro e w1 ⟨rfl, rfl⟩
    exact ⟨_, _, rfl, rfl⟩
end Go.Proofs.Ytcnlcbkgbcnloaa
