/-
  The walks of the program's Adler sum gone on with.
-/
import Derived.Test.YtbdnjejcnlinnaaRows
import Derived.Test.YtbdnjejcnlinnaaBase
import Derived.Test.YtbdnjejcnlinnaaAdlerMath
import Derived.Test.YtbdnjejcnlinnaaAdlerSum
import Derived.WalkKit
import Derived.ProofKit
import Derived.WalkLawsBesides
import Derived.RegionTactic
import Derived.BigRegion
import Derived.Deep.QuietTactic
import Derived.Lib.SmallJoins
namespace Go.Proofs.Ytbdnjejcnlinnaa
open Go.RowKit Go.Joins AdlerMath

set_option maxHeartbeats 800000 in
theorem adlerTake (p q : Int) (s : ByteArray) (b : Nat) (w : World) (hA : Ad w b p q) (h0 : 0 ≤ p) (h1 : p < 65521) (h2 : 0 ≤ q) (h3 : q < 65521) (hs : s.size ≤ 1048576) :
    Calls Try.prog 9 #[.pointer (some ⟨b, 0, none⟩), .string s] w fun e w' => e = .returned (.tuple #[]) ∧ Ad w' b (adP s p s.size) (adQ s p q s.size) ∧ Below b w w' := by
  go_enter Try.func9, Try.ntmps9
  go_wp2
  go_loopw [7] (fun i w' => ∃ j : Nat, j ≤ s.size ∧ i = .int .i64 j ∧ Ad w' b (adP s p j) (adQ s p q j) ∧ Below b w w') (fun i _ => s.size - (intOf i).toNat)
  case atStart => exact ⟨0, Nat.zero_le _, rfl, hA, Below.refl _ _⟩
  case round =>
    obtain ⟨j, hj, rfl, hA1, hb1⟩ := hrel
    have hp := adP_bd s p h0 h1 j
    have hp1 := adP_bd s p h0 h1 (j + 1)
    have hq := adQ_bd s p q h2 h3 j
    by_cases hlt : j < s.size
    · have hu := byteAt_lt s j
      have HB : Hid ((s[j]'hlt).toNat = byteAt s j) := byteAt_get s j hlt
      have hb2 : (s[j]'hlt).toNat < 256 := UInt8.toNat_lt _
      have HP : Hid (adP s p (j + 1) = (adP s p j + (byteAt s j : Int)) % 65521) := adP_succ _ _ _
      have HQ : Hid (adQ s p q (j + 1) = (adQ s p q j + adP s p (j + 1)) % 65521) := adQ_succ _ _ _ _
      have c0 := hA1.c0
      have c1 := hA1.c1
      have hb := hA1.lt
      have f0 := hA1.f
      have HA1 : Hid (Ad _ b (adP s p j) (adQ s p q j)) := hA1
      have H0 : Hid (Ad w b p q) := hA
      clear hA1 hA
      go_wp2
      go_region
      have e1 : (adP s p j + ((s[j]'hlt).toNat : Int)) % 65521 = adP s p (j + 1) := by rw [HP.out, HB.out]
      have hA2 := (HA1.out.set0 (adP s p (j + 1))).drew1
      have hB2 : Below b w ((wr.setCell ⟨b, 0, none⟩ (.int .i64 (adP s p (j + 1)))).drew) := (Below.setCell (p := ⟨b, 0, none⟩) hb1 (Nat.le_refl b) _).drew
      simp only [e1]
      generalize (wr.setCell ⟨b, 0, none⟩ (.int .i64 (adP s p (j + 1)))).drew = w2 at hA2 hB2 ⊢
      clear c0 c1 hb f0 HA1 hb1 e1 HB hb2 HP
      have c0 := hA2.c0
      have c1 := hA2.c1
      have hb := hA2.lt
      have f0 := hA2.f
      have HA2 : Hid (Ad w2 b (adP s p (j + 1)) (adQ s p q j)) := hA2
      clear hA2
      go_wp2
      go_region
      have hA3 := (HA2.out.set1 (adQ s p q (j + 1))).drew1
      have hB3 : Below b w ((w2.setCell ⟨b, 1, none⟩ (.int .i64 (adQ s p q (j + 1)))).drew) := (Below.setCell (p := ⟨b, 1, none⟩) hB2 (Nat.le_refl b) _).drew
      simp only [← HQ.out]
      generalize (w2.setCell ⟨b, 1, none⟩ (.int .i64 (adQ s p q (j + 1)))).drew = w3 at hA3 hB3 ⊢
      clear c0 c1 hb f0 HA2 hB2 HQ
      go_wp2
      go_roundw
      case rel => exact ⟨j + 1, by omega, by go_num, hA3, hB3⟩
      case measure => simp [intOf]; omega
    · go_wp2
      go_end0
      obtain rfl : j = s.size := by omega
      exact ⟨rfl, hA1, hb1⟩

theorem block_last (w : World) (o : Obj) : (w.alloc o).heap[w.heap.size]? = some o := by
  show (w.heap.push _)[w.heap.size]? = _
  simp

set_option maxHeartbeats 400000 in
theorem implAdler_any (x : Int) (s : ByteArray) (w : World) (h0 : 0 ≤ x) (h1 : x ≤ 4294967295) (hs : s.size ≤ 1048576) :
    Calls Try.prog 7 #[.int .u32 x, .string s] w fun e w' => e = .returned (.int .u32 (adler x s)) ∧ Below w.heap.size w w' := by
  have hp := adP_bd s (x % 65536 % 65521) (by omega) (by omega) s.size
  have hq := adQ_bd s (x % 65536 % 65521) (x / 65536 % 65521) (by omega) (by omega) s.size
  go_enter Try.func7, Try.ntmps7
  go_wp2_with fail
  refine (newAdler_any x _ h0 h1).mono ?_
  rintro e w1 ⟨rfl, hb1⟩
  go_wp2_with fail
  refine (adlerTake (x % 65536 % 65521) (x / 65536 % 65521) s _ _ (block_last _ _) (by omega) (by omega) (by omega) (by omega) hs).mono ?_
  rintro e w2 ⟨rfl, hA, hb2⟩
  go_wp2_with fail
  refine (adlerWord _ _ _ _ hA hp.1 hp.2 hq.1 hq.2).mono ?_
  rintro e w3 ⟨rfl, hb3⟩
  go_wp2_with fail
  go_ret
  exact ⟨rfl, bnext (Below.trans (bal hb1 _) (hb2.mono hb1.size)) hb3⟩

end Go.Proofs.Ytbdnjejcnlinnaa
