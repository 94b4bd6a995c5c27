/-
  Plain facts on the bits of a text, the lowest of each byte first; nothing here speaks of the program.
-/
import Derived.Test.YtkpbfmdnjnohlaaOutMath
import Derived.WalkKit
import Derived.Laws.BitsAllLaws
namespace Go.Proofs.Ytkpbfmdnjnohlaa
namespace TakeMath
open OutMath

def byteAt (s : ByteArray) (i : Nat) : Nat := (s.data[i]?.getD 0).toNat
theorem byteAt_lt (s : ByteArray) (i : Nat) : byteAt s i < 256 := UInt8.toNat_lt _
theorem byteAt_get (s : ByteArray) (i : Nat) (h : i < s.size) : (s[i]'h).toNat = byteAt s i := by
  unfold byteAt
  have h' : i < s.data.size := h
  rw [Array.getElem?_eq_getElem h']
  rfl

/-- Bit i of a text. -/
def bit (s : ByteArray) (i : Nat) : Int := (byteAt s (i / 8) : Int) / p2 (i % 8) % 2
theorem bit_01 (s : ByteArray) (i : Nat) : 0 ≤ bit s i ∧ bit s i ≤ 1 := by unfold bit; omega

/-- The number whose bits, the lowest first, are the k from bit a on. -/
def num (s : ByteArray) (a : Nat) : Nat → Int
  | 0 => 0
  | k + 1 => num s a k + bit s (a + k) * p2 k
theorem mul01 (b q : Int) (h0 : 0 ≤ b) (h1 : b ≤ 1) (hq : 1 ≤ q) : 0 ≤ b * q ∧ b * q ≤ q := by
  have : b = 0 ∨ b = 1 := by omega
  rcases this with rfl | rfl <;> omega
theorem num_bd (s : ByteArray) (a : Nat) : ∀ k, 0 ≤ num s a k ∧ num s a k < p2 k
  | 0 => by simp [num, p2]
  | k + 1 => by
    have h := num_bd s a k
    have hb := bit_01 s (a + k)
    have hm := mul01 _ _ hb.1 hb.2 (p2_pos k)
    unfold num
    rw [p2_succ]
    omega

theorem p2_24 {n : Nat} (h : n ≤ 24) : p2 n ≤ 16777216 := by
  have h1 := p2_le h
  have h2 : p2 24 = 16777216 := by decide +kernel
  omega

theorem div_bd (x : Nat) (q : Int) (hq : 1 ≤ q) : 0 ≤ (x : Int) / q ∧ (x : Int) / q ≤ x := ⟨Int.ediv_nonneg (by omega) (by omega), Int.ediv_le_self _ (by omega)⟩
theorem bit_walk (s : ByteArray) (i : Nat) : (Go.RowKit.wrap64 ((byteAt s (i / 8) : Int) / p2 (i % 8))).tmod 2 = bit s i := by
  have h := div_bd (byteAt s (i / 8)) (p2 (i % 8)) (p2_pos _)
  have hb := byteAt_lt s (i / 8)
  have e : Go.RowKit.wrap64 ((byteAt s (i / 8) : Int) / p2 (i % 8)) = (byteAt s (i / 8) : Int) / p2 (i % 8) := by
    unfold Go.RowKit.wrap64; omega
  rw [e, Int.tmod_eq_emod_of_nonneg h.1]
  rfl

theorem i64_and_nat (a b : Nat) (ha : a < 9223372036854775808) (hb : b < 9223372036854775808) : bits .and .i64 (a : Int) (b : Int) = ((a &&& b : Nat) : Int) := by
  have h1 : (BitVec.ofInt 64 (a : Int)).toNat = a := by
    rw [BitVec.ofInt_natCast, BitVec.toNat_ofNat]; exact Nat.mod_eq_of_lt (by omega)
  have h2 : (BitVec.ofInt 64 (b : Int)).toNat = b := by
    rw [BitVec.ofInt_natCast, BitVec.toNat_ofNat]; exact Nat.mod_eq_of_lt (by omega)
  have hx : a &&& b < 2 ^ 63 := Nat.and_lt_two_pow _ (by omega)
  show IntKind.i64.wrap ((BitVec.ofInt 64 (a : Int) &&& BitVec.ofInt 64 (b : Int)).toNat : Int) = _
  rw [BitVec.toNat_and, h1, h2, IntKind.wrap_i64]
  omega
theorem i64_or_nat (a b : Nat) (ha : a < 9223372036854775808) (hb : b < 9223372036854775808) : bits .or .i64 (a : Int) (b : Int) = ((a ||| b : Nat) : Int) := by
  have h1 : (BitVec.ofInt 64 (a : Int)).toNat = a := by
    rw [BitVec.ofInt_natCast, BitVec.toNat_ofNat]; exact Nat.mod_eq_of_lt (by omega)
  have h2 : (BitVec.ofInt 64 (b : Int)).toNat = b := by
    rw [BitVec.ofInt_natCast, BitVec.toNat_ofNat]; exact Nat.mod_eq_of_lt (by omega)
  have hx : a ||| b < 2 ^ 63 := Nat.or_lt_two_pow (by omega) (by omega)
  show IntKind.i64.wrap ((BitVec.ofInt 64 (a : Int) ||| BitVec.ofInt 64 (b : Int)).toNat : Int) = _
  rw [BitVec.toNat_or, h1, h2, IntKind.wrap_i64]
  omega
theorem and1 (x : Int) (h0 : 0 ≤ x) (h1 : x < 9223372036854775808) : bits .and .i64 x 1 = x % 2 := by
  obtain ⟨n, rfl⟩ := Int.eq_ofNat_of_zero_le h0
  have := i64_and_nat n 1 (by omega) (by omega)
  rw [nat_mask1] at this
  rw [show ((1 : Nat) : Int) = 1 from rfl] at this
  rw [this]
  omega
theorem bit_and (s : ByteArray) (i : Nat) : bits .and .i64 (Go.RowKit.wrap64 ((byteAt s (i / 8) : Int) / 2 ^ (i % 8))) 1 = bit s i := by
  have h := div_bd (byteAt s (i / 8)) (p2 (i % 8)) (p2_pos _)
  have hb := byteAt_lt s (i / 8)
  have e : Go.RowKit.wrap64 ((byteAt s (i / 8) : Int) / 2 ^ (i % 8)) = (byteAt s (i / 8) : Int) / p2 (i % 8) := by
    show Go.RowKit.wrap64 ((byteAt s (i / 8) : Int) / p2 (i % 8)) = _
    unfold Go.RowKit.wrap64; omega
  rw [e, and1 _ h.1 (by omega)]
  rfl

/-- Below two to the k a number, and a bit at k: 'or' is plus. -/
theorem or_bit (x b : Int) (k : Nat) (hk : k ≤ 24) (h0 : 0 ≤ x) (h1 : x < p2 k) (b0 : 0 ≤ b) (b1 : b ≤ 1) : bits .or .i64 x (b * p2 k) = x + b * p2 k := by
  have hm := mul01 b (p2 k) b0 b1 (p2_pos k)
  have hp := p2_24 hk
  obtain ⟨n, rfl⟩ := Int.eq_ofNat_of_zero_le h0
  obtain ⟨m, rfl⟩ := Int.eq_ofNat_of_zero_le b0
  rw [p2_nat] at h1 hm hp ⊢
  rw [show ((m : Int) * ((2 ^ k : Nat) : Int)) = ((m * 2 ^ k : Nat) : Int) from (Int.natCast_mul _ _).symm] at hm ⊢
  rw [i64_or_nat _ _ (by omega) (by omega), Nat.or_comm, nat_join k (m * 2 ^ k) n (by simp) (by omega)]
  omega

theorem or_bitW (x b : Int) (k : Nat) (hk : k ≤ 24) (h0 : 0 ≤ x) (h1 : x < p2 k) (b0 : 0 ≤ b) (b1 : b ≤ 1) : bits .or .i64 x (Go.RowKit.wrap64 (b * 2 ^ k)) = x + b * p2 k := by
  have hm := mul01 b (p2 k) b0 b1 (p2_pos k)
  have hp := p2_24 hk
  have e : Go.RowKit.wrap64 (b * 2 ^ k) = b * p2 k := by
    show Go.RowKit.wrap64 (b * p2 k) = _
    unfold Go.RowKit.wrap64; omega
  rw [e]
  exact or_bit x b k hk h0 h1 b0 b1

end TakeMath
end Go.Proofs.Ytkpbfmdnjnohlaa
