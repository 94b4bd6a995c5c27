/-
  The walk of ReadBig in the document's model.
-/
import Derived.Test.YtcnlcbkgbcnloaaRows
import Derived.Test.YtcnlcbkgbcnloaaBigMath
import Derived.Test.YtcnlcbkgbcnloaaInWalks
import Derived.WalkKit
import Derived.ProofKit
import Derived.WalkLawsBesides
namespace Go.Proofs.Ytcnlcbkgbcnloaa
open Go.RowKit BigMath

theorem ret_pair {a b : Int} {c : Bool} (h : a = b) : Ending.returned (.tuple #[.int .i64 a, .bool c]) = .returned (.tuple #[.int .i64 b, .bool c]) := by rw [h]

set_option maxHeartbeats 400000 in
theorem specRead_yes (s : ByteArray) (a k : Nat) (w : World) (hs : s.size ≤ 1048576) (h1 : 1 ≤ k) (h4 : k ≤ 4) (ha : a + k ≤ s.size) :
    Calls Try.prog 56 #[.string s, .int .i64 a, .int .i64 k] w fun e w' => e = .returned (.tuple #[.int .i64 (rb s a k), .bool true]) ∧ w' = w := by
  have d1 : decide ((a : Int) < 0) = false := by simp
  have d2 : decide ((s.size : Int) - (k : Int) < (a : Int)) = false := by simp; omega
  go_enter Try.func56, Try.ntmps56
  go_wp2_with (go_at_call 57; refine (in_yes _ _ _ _ ?_ ?_).mono ?_; omega; omega; rintro e w' ⟨rfl, rfl⟩)
  go_loop [8, 9] (fun n i => ∃ j : Nat, j ≤ k ∧ i = .int .i64 j ∧ n = .int .i64 (rb s a j)) (fun _ i => k - (intOf i).toNat)
  case atStart => exact ⟨0, Nat.zero_le _, rfl, rfl⟩
  case round =>
    obtain ⟨j, hj, rfl, rfl⟩ := hrel
    by_cases hlt : j < k
    · have hb := rb_lt3 s a j (by omega)
      have hu : (s[a + j]'(by omega)).toNat < 256 := UInt8.toNat_lt _
      have HS : Hid (rb s a (j + 1) = 256 * rb s a j + ((s[a + j]'(by omega)).toNat : Int)) := rb_succ s a j (by omega)
      go_wp2
      go_round
      case rel => exact ⟨j + 1, by omega, by go_num, by rw [HS.out]⟩
      case measure => simp [intOf]; omega
    · go_wp2
      go_ret2
      exact ⟨ret_pair (by rw [show j = k by omega]), rfl⟩

end Go.Proofs.Ytcnlcbkgbcnloaa
