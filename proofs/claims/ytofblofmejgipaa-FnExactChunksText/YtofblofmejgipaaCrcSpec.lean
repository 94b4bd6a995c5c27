/-
  The walks of the document's model of the Crc.
-/
import Derived.Test.YtofblofmejgipaaRows
import Derived.Test.YtofblofmejgipaaCrcMath
import Derived.WalkKit
import Derived.ProofKit
import Derived.WalkLawsBesides
namespace Go.Proofs.Ytofblofmejgipaa
open Go.RowKit CrcMath

theorem ret_un {a b : Nat} (h : a = b) : Ending.returned (.int .u32 (a : Int)) = .returned (.int .u32 (b : Int)) := by rw [h]

set_option maxHeartbeats 400000 in
theorem specStep (x : Nat) (w : World) (hx : x < 4294967296) :
    Calls Try.prog 59 #[.int .u32 (x : Int)] w fun e w' => e = .returned (.int .u32 (zstep x : Int)) ∧ w' = w := by
  go_enter Try.func59, Try.ntmps59
  go_wp2
  go_loop [0, 3] (fun y i => ∃ j : Nat, j ≤ 8 ∧ i = .int .i64 j ∧ y = .int .u32 (halves x j : Int)) (fun _ i => 8 - (intOf i).toNat)
  case atStart => exact ⟨0, by omega, rfl, rfl⟩
  case round =>
    obtain ⟨j, hj, rfl, rfl⟩ := hrel
    by_cases hlt : j < 8
    · have hy := halves_lt hx j
      have HS : Hid (halves x (j + 1) = half (halves x j)) := rfl
      generalize halves x j = y at hy HS ⊢
      by_cases ho : y % 2 = 1
      · have HO : Hid (bits .xor .u32 ((y : Int) / 2) 3988292384 = (half y : Int)) := half_odd y hy ho
        have d : ((y : Int) % 2 == 1) = true := by simp; omega
        clear ho
        go_wp2
        go_round
        case rel => exact ⟨j + 1, by omega, by go_num, by rw [HS.out, HO.out]⟩
        case measure => simp [intOf]; omega
      · have HO : Hid ((y : Int) / 2 = (half y : Int)) := half_even y (by omega)
        have d : ((y : Int) % 2 == 1) = false := by simp; omega
        clear ho
        go_wp2
        go_round
        case rel => exact ⟨j + 1, by omega, by go_num, by rw [HS.out, HO.out]⟩
        case measure => simp [intOf]; omega
    · go_wp2
      go_ret
      obtain rfl : j = 8 := by omega
      exact ⟨rfl, rfl⟩

set_option maxHeartbeats 400000 in
theorem specCrcMore (x : Nat) (s : ByteArray) (w : World) (hx : x < 4294967296) (hs : s.size ≤ 1048576) :
    Calls Try.prog 52 #[.int .u32 (x : Int), .string s] w fun e w' => e = .returned (.int .u32 (crc x s : Int)) ∧ w' = w := by
  have HX := xor_ones x hx
  have hx1 := xor_lt hx (show 4294967295 < 4294967296 by omega)
  unfold crc
  generalize x ^^^ 4294967295 = x1 at HX hx1 ⊢
  go_enter Try.func52, Try.ntmps52
  go_wp2
  go_loop [5, 6] (fun y i => ∃ j : Nat, j ≤ s.size ∧ i = .int .i64 j ∧ y = .int .u32 (crcAt x1 s j : Int)) (fun _ i => s.size - (intOf i).toNat)
  case atStart => exact ⟨0, by omega, rfl, rfl⟩
  case round =>
    obtain ⟨j, hj, rfl, rfl⟩ := hrel
    have hy := crcAt_lt s hx1 j
    have HS : Hid (crcAt x1 s (j + 1) = zstep (crcAt x1 s j ^^^ byteAt s j)) := rfl
    by_cases hlt : j < s.size
    · generalize crcAt x1 s j = y at hy HS ⊢
      have hu := byteAt_lt s j
      have HB : Hid ((s[j]'hlt).toNat = byteAt s j) := byteAt_get s j hlt
      have hb2 : (s[j]'hlt).toNat < 256 := UInt8.toNat_lt _
      have HY : Hid (bits .xor .u32 (y : Int) ((s[j]'hlt).toNat : Int) = ((y ^^^ byteAt s j : Nat) : Int)) := by
        rw [HB.out]; exact xor32 _ _ hy (by omega)
      have hz := xor_lt hy (show byteAt s j < 4294967296 by omega)
      go_wp2_with fail
      simp only [HY.out]
      refine (specStep _ _ hz).mono ?_
      rintro e w1 ⟨rfl, rfl⟩
      go_wp2_with fail
      go_round
      case rel => exact ⟨j + 1, by omega, by go_num, by rw [HS.out]⟩
      case measure => simp [intOf]; omega
    · obtain rfl : j = s.size := by omega
      have HZ := xor_ones _ hy
      go_wp2
      go_ret
      exact ⟨rfl, rfl⟩

end Go.Proofs.Ytofblofmejgipaa
