/-
  Plain facts on numbers for the big-endian readers; nothing here speaks of the program.
-/
import Derived.WalkKit
import Derived.Laws.BitsAllLaws
namespace Go.Proofs.Ytkpbfmdnjnohlaa
namespace BigMath

/-- What the first k bytes from place 'at' on say, the highest first. -/
def rb (s : ByteArray) (a : Nat) : Nat → Int
  | 0 => 0
  | k + 1 => 256 * rb s a k + ((s.data[a + k]?.getD 0).toNat : Int)

theorem rb_bd (s : ByteArray) (a : Nat) : ∀ k, 0 ≤ rb s a k ∧ rb s a k < 256 ^ k
  | 0 => by simp [rb]
  | k + 1 => by
    have h := rb_bd s a k
    have hb : ((s.data[a + k]?.getD 0).toNat) < 256 := UInt8.toNat_lt _
    have e : (256 : Int) ^ (k + 1) = 256 ^ k * 256 := Int.pow_succ 256 k
    unfold rb
    rw [e]
    omega

theorem pow4 (j : Nat) (h : j ≤ 4) : (256 : Int) ^ j ≤ 4294967296 := by
  have : j = 0 ∨ j = 1 ∨ j = 2 ∨ j = 3 ∨ j = 4 := by omega
  rcases this with rfl | rfl | rfl | rfl | rfl <;> decide

theorem pow3 (j : Nat) (h : j ≤ 3) : (256 : Int) ^ j ≤ 16777216 := by
  have : j = 0 ∨ j = 1 ∨ j = 2 ∨ j = 3 := by omega
  rcases this with rfl | rfl | rfl | rfl <;> decide

theorem rb_lt (s : ByteArray) (a j : Nat) (h : j ≤ 4) : 0 ≤ rb s a j ∧ rb s a j < 4294967296 := by
  have h1 := rb_bd s a j
  have h2 := pow4 j h
  omega

theorem rb_lt3 (s : ByteArray) (a j : Nat) (h : j ≤ 3) : 0 ≤ rb s a j ∧ rb s a j < 16777216 := by
  have h1 := rb_bd s a j
  have h2 := pow3 j h
  omega

theorem byte_at (s : ByteArray) (i : Nat) (h : i < s.size) : s.data[i]?.getD 0 = s[i] := by
  have h' : i < s.data.size := h
  rw [Array.getElem?_eq_getElem h']
  rfl

theorem rb_succ (s : ByteArray) (a j : Nat) (h : a + j < s.size) : rb s a (j + 1) = 256 * rb s a j + (s[a + j].toNat : Int) := by
  show 256 * rb s a j + ((s.data[a + j]?.getD 0).toNat : Int) = _
  rw [byte_at s _ h]

theorem i64_or_nat (a b : Nat) (ha : a < 9223372036854775808) (hb : b < 9223372036854775808) : bits .or .i64 (a : Int) (b : Int) = ((a ||| b : Nat) : Int) := by
  have h1 : (BitVec.ofInt 64 (a : Int)).toNat = a := by
    rw [BitVec.ofInt_natCast, BitVec.toNat_ofNat]; exact Nat.mod_eq_of_lt (by omega)
  have h2 : (BitVec.ofInt 64 (b : Int)).toNat = b := by
    rw [BitVec.ofInt_natCast, BitVec.toNat_ofNat]; exact Nat.mod_eq_of_lt (by omega)
  have hx : a ||| b < 2 ^ 63 := Nat.or_lt_two_pow (by omega) (by omega)
  show IntKind.i64.wrap ((BitVec.ofInt 64 (a : Int) ||| BitVec.ofInt 64 (b : Int)).toNat : Int) = _
  rw [BitVec.toNat_or, h1, h2, IntKind.wrap_i64]
  omega

/-- A number that is a multiple of 256, and a byte: 'or' is plus. -/
theorem or_byte (x : Int) (b : Nat) (h0 : 0 ≤ x) (h1 : x < 16777216) (hb : b < 256) : bits .or .i64 (x * 256) (b : Int) = 256 * x + b := by
  obtain ⟨n, rfl⟩ := Int.eq_ofNat_of_zero_le h0
  have e : ((n : Int) * 256) = ((n * 256 : Nat) : Int) := by omega
  rw [e, i64_or_nat _ _ (by omega) (by omega), nat_join 8 (n * 256) b (by omega) (by omega)]
  omega

end BigMath
end Go.Proofs.Ytkpbfmdnjnohlaa
