/-
  The walk of the document's model of the Adler sum.
-/
import Derived.Test.YtbdnjejcnlinnaaRows
import Derived.Test.YtbdnjejcnlinnaaAdlerMath
import Derived.WalkKit
import Derived.ProofKit
import Derived.WalkLawsBesides
namespace Go.Proofs.Ytbdnjejcnlinnaa
open Go.RowKit AdlerMath

theorem ret_u {a b : Int} (h : a = b) : Ending.returned (.int .u32 a) = .returned (.int .u32 b) := by rw [h]

set_option maxHeartbeats 400000 in
theorem specAdler_any (x : Int) (s : ByteArray) (w : World) (h0 : 0 ≤ x) (h1 : x ≤ 4294967295) (hs : s.size ≤ 1048576) :
    Calls Try.prog 6 #[.int .u32 x, .string s] w fun e w' => e = .returned (.int .u32 (adler x s)) ∧ w' = w := by
  go_enter Try.func6, Try.ntmps6
  go_wp2
  go_loop [5, 6, 7] (fun p q i => ∃ j : Nat, j ≤ s.size ∧ i = .int .i64 j ∧ p = .int .u32 (adP s (x % 65536 % 65521) j) ∧ q = .int .u32 (adQ s (x % 65536 % 65521) (x / 65536 % 65521) j)) (fun _ _ i => s.size - (intOf i).toNat)
  case atStart => exact ⟨0, Nat.zero_le _, rfl, rfl, rfl⟩
  case round =>
    obtain ⟨j, hj, rfl, rfl, rfl⟩ := hrel
    have hp := adP_bd s (x % 65536 % 65521) (by omega) (by omega) j
    have hp1 := adP_bd s (x % 65536 % 65521) (by omega) (by omega) (j + 1)
    have hq := adQ_bd s (x % 65536 % 65521) (x / 65536 % 65521) (by omega) (by omega) j
    by_cases hlt : j < s.size
    · have hu := byteAt_lt s j
      have HB : Hid ((s[j]'hlt).toNat = byteAt s j) := byteAt_get s j hlt
      have hb2 : (s[j]'hlt).toNat < 256 := UInt8.toNat_lt _
      have HP : Hid (adP s (x % 65536 % 65521) (j + 1) = (adP s (x % 65536 % 65521) j + (byteAt s j : Int)) % 65521) := adP_succ _ _ _
      have HQ : Hid (adQ s (x % 65536 % 65521) (x / 65536 % 65521) (j + 1) = (adQ s (x % 65536 % 65521) (x / 65536 % 65521) j + adP s (x % 65536 % 65521) (j + 1)) % 65521) := adQ_succ _ _ _ _
      go_wp2
      go_round
      case rel => exact ⟨j + 1, by omega, by go_num, by rw [HP.out, ← HB.out], by rw [HQ.out, HP.out, ← HB.out]⟩
      case measure => simp [intOf]; omega
    · go_wp2
      go_ret
      obtain rfl : j = s.size := by omega
      exact ⟨ret_u rfl, rfl⟩

end Go.Proofs.Ytbdnjejcnlinnaa
