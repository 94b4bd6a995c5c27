/-
  The walks of TakeBits in the program.
-/
import Derived.Test.YtbomnhpkehfdoaaRows
import Derived.Test.YtbomnhpkehfdoaaBase
import Derived.Test.YtbomnhpkehfdoaaOutMath
import Derived.Test.YtbomnhpkehfdoaaOutWalks
import Derived.Test.YtbomnhpkehfdoaaTakeCatch
import Derived.Test.YtbomnhpkehfdoaaTakeMath
import Derived.Test.YtbomnhpkehfdoaaTakeHelp
import Derived.Test.YtbomnhpkehfdoaaReaderCore
import Derived.Test.YtbomnhpkehfdoaaTakeBitImpl
import Derived.WalkKit
import Derived.ProofKit
import Derived.WalkLawsBesides
import Derived.Defers
import Derived.Recover
import Derived.RegionTactic
import Derived.Deep.QuietTactic
import Derived.BigQuiet
import Derived.Lib.SmallJoins
namespace Go.Proofs.Ytbomnhpkehfdoaa
open Go.RowKit Go.Joins OutMath TakeMath

set_option maxHeartbeats 400000 in
theorem takeNumber_yes (s : ByteArray) (a n : Nat) (b : Nat) (w : World) (hR : Rd w b s a) (hs : s.size ≤ 12000) (hn : n ≤ 24) (ha : a + n ≤ 8 * s.size) :
    Calls Try.prog 25 #[.pointer (some ⟨b, 0, none⟩), .int .i64 n] w fun e w' => e = .returned (.int .i64 (num s a n)) ∧ Rd w' b s ((a + n : Nat) : Int) ∧ Below b w w' := by
  have d1 : decide ((n : Int) < 0) = false := by simp
  have d2 : decide ((24 : Int) < n) = false := by simp; omega
  have HR : Hid (Rd w b s a) := hR
  clear hR
  go_enter Try.func25, Try.ntmps25
  go_wp2_with fail
  go_loopw [5, 16] (fun x k w' => ∃ j : Nat, j ≤ n ∧ k = .int .i64 j ∧ x = .int .i64 (num s a j) ∧ Hid (Rd w' b s ((a + j : Nat) : Int)) ∧ Below b w w') (fun _ k _ => n - (intOf k).toNat)
  case atStart => exact ⟨0, Nat.zero_le _, rfl, rfl, HR.out, Below.refl _ _⟩
  case round =>
    obtain ⟨j, hj, rfl, rfl, hR, hB⟩ := hrel
    have hb := num_bd s a j
    have hp := p2_pos j
    by_cases hlt : j < n
    · have hp4 := p2_24 (n := j) (by omega)
      have h01 := bit_01 s (a + j)
      have hm := mul01 _ _ h01.1 h01.2 hp
      have HO : Hid (bits .or .i64 (num s a j) (wrap64 (bit s (a + j) * 2 ^ j)) = num s a (j + 1)) := or_bitW _ _ _ (by omega) hb.1 hb.2 h01.1 h01.2
      go_wp2_with fail
      refine (takeBit_yes s (a + j) b _ hR.out hs (by omega)).mono ?_
      rintro e w1 ⟨rfl, hR1, hB1⟩
      have HR1 : Hid (Rd w1 b s ((a + (j + 1) : Nat) : Int)) := hR1
      clear hR1
      go_wp2_with fail
      go_roundw
      case rel => exact ⟨j + 1, by omega, by go_num, by rw [HO.out], HR1, hB.trans hB1⟩
      case measure => simp [intOf]; omega
    · obtain rfl : j = n := by omega
      go_wp2_with fail
      go_ret
      exact ⟨rfl, hR.out, hB⟩

set_option maxHeartbeats 400000 in
theorem takeNumber_out (s : ByteArray) (a n : Nat) (b : Nat) (w : World) (hR : Rd w b s a) (hs : s.size ≤ 12000) (hn : n ≤ 24) (ha : a ≤ 8 * s.size) (ho : 8 * s.size < a + n) :
    Calls Try.prog 25 #[.pointer (some ⟨b, 0, none⟩), .int .i64 n] w fun e w' => e = .panicked [{ v := .iface 61 (.agg #[]), recovered := false }] ∧ Below b w w' := by
  have d1 : decide ((n : Int) < 0) = false := by simp
  have d2 : decide ((24 : Int) < n) = false := by simp; omega
  have HR : Hid (Rd w b s a) := hR
  clear hR
  go_enter Try.func25, Try.ntmps25
  go_wp2_with fail
  go_loopw [5, 16] (fun x k w' => ∃ j : Nat, a + j ≤ 8 * s.size ∧ k = .int .i64 j ∧ x = .int .i64 (num s a j) ∧ Hid (Rd w' b s ((a + j : Nat) : Int)) ∧ Below b w w') (fun _ k _ => n - (intOf k).toNat)
  case atStart => exact ⟨0, by omega, rfl, rfl, HR.out, Below.refl _ _⟩
  case round =>
    obtain ⟨j, hj, rfl, rfl, hR, hB⟩ := hrel
    have hb := num_bd s a j
    have hp := p2_pos j
    have hlt : j < n := by omega
    by_cases hin : a + j < 8 * s.size
    · have hp4 := p2_24 (n := j) (by omega)
      have h01 := bit_01 s (a + j)
      have hm := mul01 _ _ h01.1 h01.2 hp
      have HO : Hid (bits .or .i64 (num s a j) (wrap64 (bit s (a + j) * 2 ^ j)) = num s a (j + 1)) := or_bitW _ _ _ (by omega) hb.1 hb.2 h01.1 h01.2
      go_wp2_with fail
      refine (takeBit_yes s (a + j) b _ hR.out hs hin).mono ?_
      rintro e w1 ⟨rfl, hR1, hB1⟩
      have HR1 : Hid (Rd w1 b s ((a + (j + 1) : Nat) : Int)) := hR1
      clear hR1
      go_wp2_with fail
      go_roundw
      case rel => exact ⟨j + 1, by omega, by go_num, by rw [HO.out], HR1, hB.trans hB1⟩
      case measure => simp [intOf]; omega
    · go_wp2_with fail
      refine (takeBit_no s _ b _ hR.out hs (by omega)).mono ?_
      rintro e w1 ⟨rfl, hB1⟩
      go_wp2_with fail
      exact ⟨rfl, rfl, hB.trans hB1⟩

set_option maxHeartbeats 400000 in
theorem takeNumber_bad (n : Int) (b : Nat) (w : World) (h : ¬ (0 ≤ n ∧ n ≤ 24)) :
    Calls Try.prog 25 #[.pointer (some ⟨b, 0, none⟩), .int .i64 n] w fun e w' => e = .panicked [{ v := .iface 61 (.agg #[]), recovered := false }] ∧ Below b w w' := by
  by_cases h1 : n < 0
  · clear h
    go_enter Try.func25, Try.ntmps25
    go_wp2
    exact ⟨rfl, rfl, Below.refl _ _⟩
  · have d1 : decide (n < 0) = false := by simpa using h1
    have d2 : (24 : Int) < n := by omega
    clear h
    go_enter Try.func25, Try.ntmps25
    go_wp2
    exact ⟨rfl, rfl, Below.refl _ _⟩

theorem takeNumber_no (s : ByteArray) (a n : Int) (b : Nat) (w : World) (hR : Rd w b s a) (hs : s.size ≤ 12000) (h0 : 0 ≤ a) (ha : a ≤ 8 * s.size) (h : ¬ (0 ≤ n ∧ n ≤ 24 ∧ a + n ≤ 8 * s.size)) :
    Calls Try.prog 25 #[.pointer (some ⟨b, 0, none⟩), .int .i64 n] w fun e w' => e = .panicked [{ v := .iface 61 (.agg #[]), recovered := false }] ∧ Below b w w' := by
  by_cases hn : 0 ≤ n ∧ n ≤ 24
  · obtain ⟨m, rfl⟩ := Int.eq_ofNat_of_zero_le hn.1
    obtain ⟨c, rfl⟩ := Int.eq_ofNat_of_zero_le h0
    exact takeNumber_out s c m b w hR hs (by omega) (by omega) (by omega)
  · exact takeNumber_bad n b w hn

set_option maxHeartbeats 400000 in
theorem implTake_yes (s : ByteArray) (a n : Nat) (w : World) (h1 : s.size ≤ 12000) (h2 : n ≤ 24) (h3 : a + n ≤ 8 * s.size) :
    Calls Try.prog 9 #[.agg #[.string s, .int .i64 a], .int .i64 n] w fun e w' => e = .returned (.tuple #[.int .i64 (num s a n), .agg #[.string s, .int .i64 (a + n)], .bool true]) ∧ Below w.heap.size w w' := by
  go_enter_defers Try.func9, Try.ntmps9
  go_wp2_with fail
  refine (newReader_at s a _ h1 (by omega) (by omega)).mono ?_
  rintro e w1 ⟨b, rfl, hlb, hR, hb1⟩
  go_wp2_with fail
  refine (takeNumber_yes s a n b _ hR h1 h2 h3).mono ?_
  rintro e w2 ⟨rfl, hR2, hb2⟩
  have hb12 := hb1.trans (hb2.mono hlb)
  go_wp2_with fail
  refine (readerBits s _ b _ hR2).mono ?_
  rintro e w3 ⟨rfl, hb3⟩
  have hb13 := bnext hb12 hb3
  obtain ⟨k1, f1⟩ := bcell hb13
  have hz : w.heap.size + 1 < w3.heap.size := by have := hb13.size; simp at this; omega
  have hB : Below w.heap.size w w3 := bnext (bal (bstart _ _) _) hb13
  go_wp2_with fail
  refine leaves_cons (f := 23) (args := #[]) (by simp) (by simp [go_sem]) ?_
  refine (catchTake_idle _).mono ?_
  rintro e u' w'' ⟨rfl, rfl, rfl⟩
  simp [Leaves, settle, results, Try.results9, go_sem, k1]
  exact (hB.setCell (by simp) _).setCell (by simp) _

set_option maxHeartbeats 400000 in
theorem implTake_no (s : ByteArray) (a n : Int) (w : World) (hs : s.size ≤ maxLen) (h : ¬ (0 ≤ n ∧ n ≤ 24 ∧ s.size ≤ 12000 ∧ 0 ≤ a ∧ a + n ≤ 8 * s.size)) :
    Calls Try.prog 9 #[.agg #[.string s, .int .i64 a], .int .i64 n] w fun e w' => e = .returned (.tuple #[.int .i64 0, .agg #[.string ⟨#[]⟩, .int .i64 0], .bool false]) ∧ Below w.heap.size w w' := by
  by_cases hr : s.size ≤ 12000 ∧ 0 ≤ a ∧ a ≤ 8 * s.size
  · obtain ⟨r1, r2, r3⟩ := hr
    have H : Hid (¬ (0 ≤ n ∧ n ≤ 24 ∧ a + n ≤ 8 * s.size)) := fun c => h ⟨c.1, c.2.1, r1, r2, c.2.2⟩
    clear h
    go_enter_defers Try.func9, Try.ntmps9
    go_wp2_with fail
    refine (newReader_at s a _ r1 r2 r3).mono ?_
    rintro e w1 ⟨b, rfl, hlb, hR, hb1⟩
    go_wp2_with fail
    refine (takeNumber_no s a n b _ hR r1 r2 r3 H.out).mono ?_
    rintro e w2 ⟨rfl, hb2⟩
    have hb12 := hb1.trans (hb2.mono hlb)
    obtain ⟨k1, f1⟩ := bcell hb12
    have hz : w.heap.size + 1 < w2.heap.size := by have := hb12.size; simp at this; omega
    have hB : Below w.heap.size w w2 := bnext (bal (bstart _ _) _) hb12
    go_wp2_with fail
    refine leaves_cons (f := 23) (args := #[]) (by simp) (by simp [go_sem]) ?_
    refine (catchTake_panic _ _ [] _).mono ?_
    rintro e u' w'' ⟨rfl, rfl, rfl⟩
    simp [Leaves, settle, results, Try.results9, go_sem, k1, hB]
  · have H : Hid (¬ (s.size ≤ 12000 ∧ 0 ≤ a ∧ a ≤ 8 * s.size)) := hr
    clear h hr
    go_enter_defers Try.func9, Try.ntmps9
    go_wp2_with fail
    refine (newReader_no s a _ hs H.out).mono ?_
    rintro e w1 ⟨rfl, hb1⟩
    obtain ⟨k1, f1⟩ := bcell hb1
    have hz : w.heap.size + 1 < w1.heap.size := by have := hb1.size; simp at this; omega
    have hB : Below w.heap.size w w1 := bnext (bal (bstart _ _) _) hb1
    go_wp2_with fail
    refine leaves_cons (f := 23) (args := #[]) (by simp) (by simp [go_sem]) ?_
    refine (catchTake_panic _ _ [] _).mono ?_
    rintro e u' w'' ⟨rfl, rfl, rfl⟩
    simp [Leaves, settle, results, Try.results9, go_sem, k1, hB]
end Go.Proofs.Ytbomnhpkehfdoaa
