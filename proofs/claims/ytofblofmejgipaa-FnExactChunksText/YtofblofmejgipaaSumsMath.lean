/-
  Plain facts on both sums of a text that is cut, or has one byte turned; nothing here speaks of the program.
-/
import Derived.Test.YtofblofmejgipaaAdlerMath
import Derived.Test.YtofblofmejgipaaCrcMath
import Derived.WalkKit
namespace Go.Proofs.Ytofblofmejgipaa
namespace SumsMath
open AdlerMath CrcMath

/-- s is a and then b. -/
def Parts (s a b : ByteArray) (k m : Nat) : Prop := a.size = k ∧ b.size = m ∧ s.size = k + m ∧ (∀ i, i < k → CrcMath.byteAt s i = CrcMath.byteAt a i) ∧ ∀ i, i < m → CrcMath.byteAt s (k + i) = CrcMath.byteAt b i

theorem parts_of (s : ByteArray) (k : Nat) (hk : k ≤ s.size) : Parts s (s.extract 0 k) (s.extract k s.size) k (s.size - k) := by
  have e : s.size = s.data.size := rfl
  refine ⟨by simp; omega, by simp, by omega, fun i hi => ?_, fun i hi => ?_⟩
  · unfold CrcMath.byteAt
    congr 2
    simp only [ByteArray.data_extract, Array.getElem?_extract]
    rw [if_pos (by omega)]
    simp
  · unfold CrcMath.byteAt
    congr 2
    simp only [ByteArray.data_extract, Array.getElem?_extract]
    rw [if_pos (by omega)]

section
variable {s a b : ByteArray} {k m : Nat}
theorem crc_on (h : Parts s a b k m) : crc (crc 0 a) b = crc 0 s := by
  obtain ⟨h1, h2, h3, h4, h5⟩ := h
  unfold crc
  rw [Nat.xor_assoc, Nat.xor_self, Nat.xor_zero, h1, h2, h3, ← crcAt_front _ a s k h4 k (Nat.le_refl k), ← crcAt_back _ b s k m h5 m (Nat.le_refl m)]
theorem crc_join (h : Parts s a b k m) : zsteps (crc 0 a) m ^^^ crc 0 b = crc 0 s := by
  rw [← crc_on h]
  obtain ⟨h1, h2, h3, h4, h5⟩ := h
  show zsteps (crc 0 a) m ^^^ (crcAt (0 ^^^ 4294967295) b b.size ^^^ 4294967295) = crcAt (crc 0 a ^^^ 4294967295) b b.size ^^^ 4294967295
  rw [Nat.zero_xor, crcAt_xor (crc 0 a), h2, Nat.xor_assoc]
theorem crc_turned {t : ByteArray} (hz : t.size = s.size) {i : Nat} (hi : i < s.size) (hd : CrcMath.byteAt s i ≠ CrcMath.byteAt t i) (h : ∀ j, j ≠ i → CrcMath.byteAt s j = CrcMath.byteAt t j) : crc 0 t ≠ crc 0 s := by
  intro e
  unfold crc at e
  rw [hz] at e
  exact crcAt_turned (0 ^^^ 4294967295) (by decide) s t i hd h s.size hi (CrcMath.xor_cancel e).symm

theorem adP_front (p : Int) (h : ∀ i, i < k → CrcMath.byteAt s i = CrcMath.byteAt a i) : ∀ n, n ≤ k → adP s p n = adP a p n
  | 0, _ => rfl
  | n + 1, hn => by
    rw [adP_succ, adP_succ, adP_front p h n (by omega), show AdlerMath.byteAt s n = AdlerMath.byteAt a n from h n (by omega)]
theorem adQ_front (p q : Int) (h : ∀ i, i < k → CrcMath.byteAt s i = CrcMath.byteAt a i) : ∀ n, n ≤ k → adQ s p q n = adQ a p q n
  | 0, _ => rfl
  | n + 1, hn => by
    rw [adQ_succ, adQ_succ, adQ_front p q h n (by omega), adP_front p h (n + 1) (by omega)]
theorem adP_back (p : Int) (h : ∀ i, i < m → CrcMath.byteAt s (k + i) = CrcMath.byteAt b i) : ∀ n, n ≤ m → adP s p (k + n) = adP b (adP s p k) n
  | 0, _ => rfl
  | n + 1, hn => by
    show adP s p (k + n + 1) = _
    rw [adP_succ, adP_succ, adP_back p h n (by omega), show AdlerMath.byteAt s (k + n) = AdlerMath.byteAt b n from h n (by omega)]
theorem adQ_back (p q : Int) (h : ∀ i, i < m → CrcMath.byteAt s (k + i) = CrcMath.byteAt b i) : ∀ n, n ≤ m → adQ s p q (k + n) = adQ b (adP s p k) (adQ s p q k) n
  | 0, _ => rfl
  | n + 1, hn => by
    show adQ s p q (k + n + 1) = _
    rw [adQ_succ, adQ_succ, adQ_back p q h n (by omega), show adP s p (k + n + 1) = adP s p (k + (n + 1)) from rfl, adP_back p h (n + 1) hn]

theorem adler_low (x : Int) (s : ByteArray) : adler x s % 65536 % 65521 = adP s (x % 65536 % 65521) s.size ∧ adler x s / 65536 % 65521 = adQ s (x % 65536 % 65521) (x / 65536 % 65521) s.size := by
  have hp := adP_bd s (x % 65536 % 65521) (by omega) (by omega) s.size
  have hq := adQ_bd s (x % 65536 % 65521) (x / 65536 % 65521) (by omega) (by omega) s.size
  unfold adler
  omega
theorem adler_bd (x : Int) (s : ByteArray) : 0 ≤ adler x s ∧ adler x s ≤ 4294967295 := by
  have hp := adP_bd s (x % 65536 % 65521) (by omega) (by omega) s.size
  have hq := adQ_bd s (x % 65536 % 65521) (x / 65536 % 65521) (by omega) (by omega) s.size
  unfold adler
  omega
theorem adler_on (h : Parts s a b k m) : adler (adler 1 a) b = adler 1 s := by
  obtain ⟨h1, h2, h3, h4, h5⟩ := h
  obtain ⟨e1, e2⟩ := adler_low 1 a
  show adQ b (adler 1 a % 65536 % 65521) (adler 1 a / 65536 % 65521) b.size * 65536 + adP b (adler 1 a % 65536 % 65521) b.size = _
  rw [e1, e2, h1, h2, ← adP_front _ h4 k (Nat.le_refl k), ← adQ_front _ _ h4 k (Nat.le_refl k), ← adP_back _ h5 m (Nat.le_refl m), ← adQ_back _ _ h5 m (Nat.le_refl m), ← h3]
  rfl

theorem adP_join (b : ByteArray) (p : Int) (h0 : 0 ≤ p) (h1 : p < 65521) : ∀ n, adP b p n = (p + adP b 1 n + 65520) % 65521
  | 0 => by show p = (p + 1 + 65520) % 65521; omega
  | n + 1 => by rw [adP_succ, adP_succ, adP_join b p h0 h1 n]; omega
theorem adQ_join (b : ByteArray) (p q : Int) (h0 : 0 ≤ p) (h1 : p < 65521) (h2 : 0 ≤ q) (h3 : q < 65521) : ∀ n : Nat, adQ b p q n = (q + adQ b 1 0 n + (n : Int) * (p + 65520)) % 65521
  | 0 => by show q = (q + 0 + ((0 : Nat) : Int) * (p + 65520)) % 65521; rw [show ((0 : Nat) : Int) * (p + 65520) = 0 by simp]; omega
  | n + 1 => by
    rw [adQ_succ, adQ_succ, adQ_join b p q h0 h1 h2 h3 n, adP_join b p h0 h1 (n + 1)]
    have e : ((n + 1 : Nat) : Int) * (p + 65520) = (n : Int) * (p + 65520) + (p + 65520) := by rw [Int.natCast_add, Int.add_mul]; simp
    rw [e]
    generalize (n : Int) * (p + 65520) = X
    generalize adQ b 1 0 n = Y
    generalize adP b 1 (n + 1) = Z
    omega
theorem adler_join (h : Parts s a b k m) : joined (adler 1 a) (adler 1 b) m = adler 1 s := by
  rw [← adler_on h]
  obtain ⟨h1, h2, h3, h4, h5⟩ := h
  obtain ⟨e1, e2⟩ := adler_low 1 a
  obtain ⟨e3, e4⟩ := adler_low 1 b
  have hp := adP_bd a (1 % 65536 % 65521) (by omega) (by omega) a.size
  have hq := adQ_bd a (1 % 65536 % 65521) (1 / 65536 % 65521) (by omega) (by omega) a.size
  unfold joined
  show _ = adQ b (adler 1 a % 65536 % 65521) (adler 1 a / 65536 % 65521) b.size * 65536 + adP b (adler 1 a % 65536 % 65521) b.size
  rw [e1, e2, e3, e4, adP_join b _ hp.1 hp.2, adQ_join b _ _ hp.1 hp.2 hq.1 hq.2, h2]
  rfl
end

end SumsMath
end Go.Proofs.Ytofblofmejgipaa
