/-
  The walks of the program's Crc gone on with: a word of a lowest byte, a byte taken, a text taken.
-/
import Derived.Test.YtofblofmejgipaaRows
import Derived.Test.YtofblofmejgipaaBase
import Derived.Test.YtofblofmejgipaaCrcMath
import Derived.Test.YtofblofmejgipaaCrcWordMath
import Derived.WalkKit
import Derived.ProofKit
import Derived.WalkLawsBesides
import Derived.RegionTactic
import Derived.BigRegion
import Derived.Deep.RegionWith
import Derived.Deep.QuietTactic
import Derived.Lib.SmallJoins
namespace Go.Proofs.Ytofblofmejgipaa
open Go.RowKit Go.Joins CrcMath

set_option maxHeartbeats 400000 in
theorem crcWord_any (n : Nat) (w : World) (hn : n < 256) :
    Calls Try.prog 65 #[.int .u8 (n : Int)] w fun e w' => e = .returned (.int .u32 (zstep n : Int)) ∧ w' = w := by
  have hx : n < 4294967296 := by omega
  go_enter Try.func65, Try.ntmps65
  go_wp2
  go_loop [3, 7] (fun y i => ∃ j : Nat, j ≤ 8 ∧ i = .int .i64 j ∧ y = .int .u32 (halves n j : Int)) (fun _ i => 8 - (intOf i).toNat)
  case atStart => exact ⟨0, by omega, rfl, rfl⟩
  case round =>
    obtain ⟨j, hj, rfl, rfl⟩ := hrel
    by_cases hlt : j < 8
    · have hy := halves_lt hx j
      have HS : Hid (halves n (j + 1) = half (halves n j)) := rfl
      generalize halves n j = y at hy HS ⊢
      by_cases ho : y % 2 = 1
      · have HO : Hid (bits .xor .u32 ((y : Int) / 2) 3988292384 = (half y : Int)) := half_odd y hy ho
        have d : bits .and .u32 (y : Int) 1 = 1 := by rw [and_one y hy, ho]; rfl
        clear ho
        go_wp2
        go_round
        case rel => exact ⟨j + 1, by omega, by go_num, by rw [HS.out, ← HO.out]⟩
        case measure => simp [intOf]; omega
      · have HO : Hid ((y : Int) / 2 = (half y : Int)) := half_even y (by omega)
        have d : bits .and .u32 (y : Int) 1 = 0 := by rw [and_one y hy, show y % 2 = 0 by omega]; rfl
        have HN : Hid (bits .xor .u32 ((y : Int) / 2) 0 = (y : Int) / 2) := by
          have k := xor_none (y / 2) (by omega)
          rw [show ((y / 2 : Nat) : Int) = (y : Int) / 2 by omega] at k
          exact k
        clear ho
        go_wp2
        go_round
        case rel => exact ⟨j + 1, by omega, by go_num, by rw [HS.out, ← HO.out, HN.out]⟩
        case measure => simp [intOf]; omega
    · go_wp2
      go_ret
      obtain rfl : j = 8 := by omega
      exact ⟨rfl, rfl⟩

/-- Block b is a sum of this word. -/
def Cs (w : World) (b : Nat) (x : Int) : Prop := w.heap[b]? = some (.cells #[.int .u32 x] 82 (0, 0))
theorem Cs.c0 {w : World} {b : Nat} {x : Int} (h : Cs w b x) : w.cell? ⟨b, 0, none⟩ = some (.int .u32 x) := cell_of_block h 0
theorem Cs.f {w : World} {b : Nat} {x : Int} (h : Cs w b x) (i : Nat) : w.frozen? ⟨b, i, none⟩ = false := unfrozen_of_block h i
theorem Cs.set {w : World} {b : Nat} {x : Int} (h : Cs w b x) (y : Int) : Cs (w.setCell ⟨b, 0, none⟩ (.int .u32 y)) b y := by
  have := block_setCell (i := 0) h (.int .u32 y)
  simpa [Cs] using this
theorem Cs.drew {w : World} {b : Nat} {x : Int} (h : Cs w b x) : Cs w.drew b x := h
theorem Cs.lt {w : World} {b : Nat} {x : Int} (h : Cs w b x) : b < w.heap.size := block_lt h

set_option maxHeartbeats 800000 in
theorem crcTakeByte (x u : Nat) (b : Nat) (w : World) (hA : Cs w b (x : Int)) (hx : x < 4294967296) (hu : u < 256) :
    Calls Try.prog 64 #[.pointer (some ⟨b, 0, none⟩), .int .u8 (u : Int)] w fun e w' => e = .returned (.tuple #[]) ∧ Cs w' b (zstep (x ^^^ u) : Nat) ∧ Below b w w' := by
  have c0 := hA.c0
  have hb := hA.lt
  have f0 := hA.f
  have hlo := xor8_lt (show x % 256 < 256 by omega) hu
  have k1 : bits .xor .u8 ((x : Int) % 256) (u : Int) = (((x % 256) ^^^ u : Nat) : Int) := by
    have k := u8_xor_nat (x % 256) u (by omega) hu
    rw [show ((x % 256 : Nat) : Int) = (x : Int) % 256 by omega] at k
    exact k
  have hz := step_lt (x := (x % 256) ^^^ u) (by omega)
  have k2 : bits .xor .u32 ((x : Int) / 256) (zstep ((x % 256) ^^^ u) : Nat) = ((zstep (x ^^^ u) : Nat) : Int) := by
    have k := xor32 (x / 256) (zstep ((x % 256) ^^^ u)) (by omega) hz
    rw [show ((x / 256 : Nat) : Int) = (x : Int) / 256 by omega, ← step_byte x u hu] at k
    exact k
  have HA : Hid (Cs w b (x : Int)) := hA
  clear hA
  generalize (x % 256) ^^^ u = v at hlo k1 hz k2
  go_enter Try.func64, Try.ntmps64
  go_wp2_with fail
  go_region_with (go_at_call 65; refine (crcWord_any v _ hlo).mono ?_; rintro e w' ⟨rfl, rfl⟩)
  all_goals
    go_wp2
    go_end0
    exact ⟨rfl, (HA.out.set _).drew, (Below.setCell (p := ⟨b, 0, none⟩) (Below.refl b w) (Nat.le_refl b) _).drew⟩

set_option maxHeartbeats 800000 in
theorem crcTake (x : Nat) (s : ByteArray) (b : Nat) (w : World) (hA : Cs w b (x : Int)) (hx : x < 4294967296) (hs : s.size ≤ 1048576) :
    Calls Try.prog 62 #[.pointer (some ⟨b, 0, none⟩), .string s] w fun e w' => e = .returned (.tuple #[]) ∧ Cs w' b (crcAt x s s.size : Nat) ∧ Below b w w' := by
  have HA : Hid (Cs w b (x : Int)) := hA
  clear hA
  go_enter Try.func62, Try.ntmps62
  go_wp2
  go_loopw [7] (fun i w' => ∃ j : Nat, j ≤ s.size ∧ i = .int .i64 j ∧ Hid (Cs w' b (crcAt x s j : Nat)) ∧ Below b w w') (fun i _ => s.size - (intOf i).toNat)
  case atStart => exact ⟨0, Nat.zero_le _, rfl, HA, Below.refl _ _⟩
  case round =>
    obtain ⟨j, hj, rfl, hA1, hb1⟩ := hrel
    by_cases hlt : j < s.size
    · have hu := byteAt_lt s j
      have HB : Hid ((s[j]'hlt).toNat = byteAt s j) := byteAt_get s j hlt
      have hb2 : (s[j]'hlt).toNat < 256 := UInt8.toNat_lt _
      go_wp2_with fail
      refine (crcTakeByte (crcAt x s j) (s[j]'hlt).toNat b _ hA1.out (crcAt_lt s hx j) hb2).mono ?_
      rintro e w1 ⟨rfl, hA2, hB2⟩
      have HA2 : Hid (Cs w1 b (crcAt x s (j + 1) : Nat)) := by
        show Cs w1 b (zstep (crcAt x s j ^^^ byteAt s j) : Nat)
        rw [← HB.out]
        exact hA2
      clear hA2
      go_wp2_with fail
      go_roundw
      case rel => exact ⟨j + 1, by omega, by go_num, HA2, hb1.trans hB2⟩
      case measure => simp [intOf]; omega
    · go_wp2
      go_end0
      obtain rfl : j = s.size := by omega
      exact ⟨rfl, hA1.out, hb1⟩

theorem max_xor (x : Nat) (hx : x < 4294967296) : bits .xor .u32 IntKind.u32.max (x : Int) = ((x ^^^ 4294967295 : Nat) : Int) := by
  have k := xor32 4294967295 x (by omega) hx
  rw [Nat.xor_comm] at k
  exact k

set_option maxHeartbeats 400000 in
theorem implCrcMore (x : Nat) (s : ByteArray) (w : World) (hx : x < 4294967296) (hs : s.size ≤ 1048576) :
    Calls Try.prog 57 #[.int .u32 (x : Int), .string s] w fun e w' => e = .returned (.int .u32 (crc x s : Int)) ∧ Below w.heap.size w w' := by
  have HX := max_xor x hx
  have hx1 := xor_lt hx (show 4294967295 < 4294967296 by omega)
  have hz := crcAt_lt s hx1 s.size
  have HZ := max_xor _ hz
  have hsg : IntKind.u32.signed = false := rfl
  unfold crc
  generalize x ^^^ 4294967295 = x1 at HX hx1 hz HZ ⊢
  go_enter Try.func57, Try.ntmps57
  go_wp2_with fail
  refine (crcTake x1 s w.heap.size _ (heap_alloc_new w _) hx1 hs).mono ?_
  rintro e w1 ⟨rfl, hA, hb1⟩
  have c0 := hA.c0
  have hB : Below w.heap.size w w1 := (bstart w _).trans hb1
  clear hA hb1
  go_wp2_with fail
  go_ret
  exact ⟨rfl, hB⟩

end Go.Proofs.Ytofblofmejgipaa
