/-
  Plain facts on numbers for the big-endian readers; nothing here speaks of the program.
  Plain facts on the bytes of a number, the highest first; nothing here speaks of the program.
  Plain facts on the bits of a text, the lowest of each byte first; nothing here speaks of the program.
  Channels, depths and rows of rasters, in plain numbers. Nothing here speaks of the program.
  Plain facts on the other sum: a word halved, with a turn where it was odd; nothing here speaks of the program.
  Chunks and their file: plain texts. Nothing here speaks of the program.
-/
import Derived.Test.YtcnlcbkgbcnloaaHk04
import Derived.WalkKit
import Derived.Laws.BitsAllLaws
import Derived.Laws.BytesArg
import Derived.Laws.Concat
namespace Go.Proofs.Ytcnlcbkgbcnloaa
namespace BigMath

/-- What the first k bytes from place 'at' on say, the highest first. -/
def rb (s : ByteArray) (a : Nat) : Nat → Int
  | 0 => 0
  | k + 1 => 256 * rb s a k + ((s.data[a + k]?.getD 0).toNat : Int)

theorem rb_bd (s : ByteArray) (a : Nat) : ∀ k, 0 ≤ rb s a k ∧ rb s a k < 256 ^ k
  | 0 => by simp [rb]
  | k + 1 => by
    have h := rb_bd s a k
    have hb : ((s.data[a + k]?.getD 0).toNat) < 256 := UInt8.toNat_lt _
    have e : (256 : Int) ^ (k + 1) = 256 ^ k * 256 := Int.pow_succ 256 k
    unfold rb
    rw [e]
    omega

theorem pow3 (j : Nat) (h : j ≤ 3) : (256 : Int) ^ j ≤ 16777216 := by
  have : j = 0 ∨ j = 1 ∨ j = 2 ∨ j = 3 := by omega
  rcases this with rfl | rfl | rfl | rfl <;> decide

theorem rb_lt3 (s : ByteArray) (a j : Nat) (h : j ≤ 3) : 0 ≤ rb s a j ∧ rb s a j < 16777216 := by
  have h1 := rb_bd s a j
  have h2 := pow3 j h
  omega

theorem byte_at (s : ByteArray) (i : Nat) (h : i < s.size) : s.data[i]?.getD 0 = s[i] := by
  have h' : i < s.data.size := h
  rw [Array.getElem?_eq_getElem h']
  rfl

theorem rb_succ (s : ByteArray) (a j : Nat) (h : a + j < s.size) : rb s a (j + 1) = 256 * rb s a j + (s[a + j].toNat : Int) := by
  show 256 * rb s a j + ((s.data[a + j]?.getD 0).toNat : Int) = _
  rw [byte_at s _ h]

theorem i64_or_nat (a b : Nat) (ha : a < 9223372036854775808) (hb : b < 9223372036854775808) : bits .or .i64 (a : Int) (b : Int) = ((a ||| b : Nat) : Int) := by
  have h1 : (BitVec.ofInt 64 (a : Int)).toNat = a := by
    rw [BitVec.ofInt_natCast, BitVec.toNat_ofNat]; exact Nat.mod_eq_of_lt (by omega)
  have h2 : (BitVec.ofInt 64 (b : Int)).toNat = b := by
    rw [BitVec.ofInt_natCast, BitVec.toNat_ofNat]; exact Nat.mod_eq_of_lt (by omega)
  have hx : a ||| b < 2 ^ 63 := Nat.or_lt_two_pow (by omega) (by omega)
  show IntKind.i64.wrap ((BitVec.ofInt 64 (a : Int) ||| BitVec.ofInt 64 (b : Int)).toNat : Int) = _
  rw [BitVec.toNat_or, h1, h2, IntKind.wrap_i64]
  omega

/-- A number that is a multiple of 256, and a byte: 'or' is plus. -/
theorem or_byte (x : Int) (b : Nat) (h0 : 0 ≤ x) (h1 : x < 16777216) (hb : b < 256) : bits .or .i64 (x * 256) (b : Int) = 256 * x + b := by
  obtain ⟨n, rfl⟩ := Int.eq_ofNat_of_zero_le h0
  have e : ((n : Int) * 256) = ((n * 256 : Nat) : Int) := by omega
  rw [e, i64_or_nat _ _ (by omega) (by omega), nat_join 8 (n * 256) b (by omega) (by omega)]
  omega

end BigMath
end Go.Proofs.Ytcnlcbkgbcnloaa

namespace Go.Proofs.Ytcnlcbkgbcnloaa
namespace BigTextMath

/-- 256 to the power n, behind a name. -/
def q256 : Nat → Int
  | 0 => 1
  | n + 1 => q256 n * 256
theorem q256_pos : ∀ n, 1 ≤ q256 n
  | 0 => by simp [q256]
  | n + 1 => by have := q256_pos n; unfold q256; omega

/-- The k lowest bytes of n, the highest first. -/
def low (n : Int) : Nat → List Int
  | 0 => []
  | k + 1 => (n / q256 k % 256) :: low n k
theorem low_length (n : Int) : ∀ k, (low n k).length = k
  | 0 => rfl
  | k + 1 => by simp [low, low_length n k]

theorem strOfNums_cons (x : Int) (xs : List Int) : strOfNums [x] ++ strOfNums xs = strOfNums (x :: xs) := by
  show ByteArray.mk (List.toArray _) ++ ByteArray.mk (List.toArray _) = _
  rw [ByteArray.mk_append_mk]
  rfl

theorem div_succ (n : Int) (k : Nat) : n / q256 k / 256 = n / q256 (k + 1) := by
  rw [Int.ediv_ediv_of_nonneg (by have := q256_pos k; omega)]
  rfl
theorem div_nonneg (n : Int) (h : 0 ≤ n) (k : Nat) : 0 ≤ n / q256 k := Int.ediv_nonneg h (by have := q256_pos k; omega)
theorem div_le (n : Int) (h : 0 ≤ n) (k : Nat) : n / q256 k ≤ n := Int.ediv_le_self _ h

theorem low1 (n : Int) (h0 : 0 ≤ n) (h : n < 256) : low n 1 = [n] := by simp [low, q256]; omega
theorem low2 (n : Int) (h0 : 0 ≤ n) (h : n < 65536) : low n 2 = [n / 256, n % 256] := by simp [low, q256]; omega
theorem low3 (n : Int) (h0 : 0 ≤ n) (h : n < 16777216) : low n 3 = [n / 65536, n / 256 % 256, n % 256] := by simp [low, q256]; omega
theorem low4 (n : Int) (h0 : 0 ≤ n) (h : n < 4294967296) : low n 4 = [n / 16777216, n / 65536 % 256, n / 256 % 256, n % 256] := by simp [low, q256]; omega

end BigTextMath
end Go.Proofs.Ytcnlcbkgbcnloaa

namespace Go.Proofs.Ytcnlcbkgbcnloaa
namespace TakeMath
open OutMath

def byteAt (s : ByteArray) (i : Nat) : Nat := (s.data[i]?.getD 0).toNat
theorem byteAt_lt (s : ByteArray) (i : Nat) : byteAt s i < 256 := UInt8.toNat_lt _
theorem byteAt_get (s : ByteArray) (i : Nat) (h : i < s.size) : (s[i]'h).toNat = byteAt s i := by
  unfold byteAt
  have h' : i < s.data.size := h
  rw [Array.getElem?_eq_getElem h']
  rfl

/-- Bit i of a text. -/
def bit (s : ByteArray) (i : Nat) : Int := (byteAt s (i / 8) : Int) / p2 (i % 8) % 2
theorem div_bd (x : Nat) (q : Int) (hq : 1 ≤ q) : 0 ≤ (x : Int) / q ∧ (x : Int) / q ≤ x := ⟨Int.ediv_nonneg (by omega) (by omega), Int.ediv_le_self _ (by omega)⟩
theorem i64_and_nat (a b : Nat) (ha : a < 9223372036854775808) (hb : b < 9223372036854775808) : bits .and .i64 (a : Int) (b : Int) = ((a &&& b : Nat) : Int) := by
  have h1 : (BitVec.ofInt 64 (a : Int)).toNat = a := by
    rw [BitVec.ofInt_natCast, BitVec.toNat_ofNat]; exact Nat.mod_eq_of_lt (by omega)
  have h2 : (BitVec.ofInt 64 (b : Int)).toNat = b := by
    rw [BitVec.ofInt_natCast, BitVec.toNat_ofNat]; exact Nat.mod_eq_of_lt (by omega)
  have hx : a &&& b < 2 ^ 63 := Nat.and_lt_two_pow _ (by omega)
  show IntKind.i64.wrap ((BitVec.ofInt 64 (a : Int) &&& BitVec.ofInt 64 (b : Int)).toNat : Int) = _
  rw [BitVec.toNat_and, h1, h2, IntKind.wrap_i64]
  omega
theorem i64_or_nat (a b : Nat) (ha : a < 9223372036854775808) (hb : b < 9223372036854775808) : bits .or .i64 (a : Int) (b : Int) = ((a ||| b : Nat) : Int) := by
  have h1 : (BitVec.ofInt 64 (a : Int)).toNat = a := by
    rw [BitVec.ofInt_natCast, BitVec.toNat_ofNat]; exact Nat.mod_eq_of_lt (by omega)
  have h2 : (BitVec.ofInt 64 (b : Int)).toNat = b := by
    rw [BitVec.ofInt_natCast, BitVec.toNat_ofNat]; exact Nat.mod_eq_of_lt (by omega)
  have hx : a ||| b < 2 ^ 63 := Nat.or_lt_two_pow (by omega) (by omega)
  show IntKind.i64.wrap ((BitVec.ofInt 64 (a : Int) ||| BitVec.ofInt 64 (b : Int)).toNat : Int) = _
  rw [BitVec.toNat_or, h1, h2, IntKind.wrap_i64]
  omega
end TakeMath
end Go.Proofs.Ytcnlcbkgbcnloaa

namespace Go.Proofs.Ytcnlcbkgbcnloaa
namespace RastMath

/-- How many channels a color has. -/
def chan (c : Int) : Int := if c = 0 ∨ c = 3 then 1 else if c = 2 then 3 else if c = 4 then 2 else if c = 6 then 4 else 0
/-- The five depths. -/
abbrev Five (d : Int) : Prop := d = 1 ∨ d = 2 ∨ d = 4 ∨ d = 8 ∨ d = 16
/-- Is it a depth of the color? -/
abbrev DepthR (c d : Int) : Prop := (c = 0 ∧ Five d) ∨ (c = 3 ∧ Five d ∧ d ≠ 16) ∨ ((c = 2 ∨ c = 4 ∨ c = 6) ∧ (d = 8 ∨ d = 16))
abbrev SideR (n : Int) : Prop := 1 ≤ n ∧ n ≤ 24
theorem depth_five {c d : Int} (h : DepthR c d) : Five d := by
  rcases h with ⟨_, h⟩ | ⟨_, h, _⟩ | ⟨_, h⟩
  · exact h
  · exact h
  · exact .inr (.inr (.inr h))
theorem five_range {d : Int} (h : Five d) : 1 ≤ d ∧ d ≤ 16 := by
  unfold Five at h
  omega
end RastMath
end Go.Proofs.Ytcnlcbkgbcnloaa

namespace Go.Proofs.Ytcnlcbkgbcnloaa
namespace CrcMath

def byteAt (s : ByteArray) (i : Nat) : Nat := (s.data[i]?.getD 0).toNat
theorem byteAt_lt (s : ByteArray) (i : Nat) : byteAt s i < 256 := UInt8.toNat_lt _
theorem byteAt_get (s : ByteArray) (i : Nat) (h : i < s.size) : (s[i]'h).toNat = byteAt s i := by
  unfold byteAt
  have h' : i < s.data.size := h
  rw [Array.getElem?_eq_getElem h']
  rfl

end CrcMath
end Go.Proofs.Ytcnlcbkgbcnloaa

namespace Go.Proofs.Ytcnlcbkgbcnloaa
namespace ChunkMath
open Go.RowKit OutMath BigMath BigTextMath CrcMath

theorem bx_ext {a b : ByteArray} (h : a.data.toList = b.data.toList) : a = b := by
  obtain ⟨x⟩ := a
  obtain ⟨y⟩ := b
  congr 1
  exact Array.ext' h
theorem bx_app (a b : ByteArray) : (a ++ b).data.toList = a.data.toList ++ b.data.toList := by
  obtain ⟨x⟩ := a
  obtain ⟨y⟩ := b
  show (ByteArray.mk x ++ ByteArray.mk y).data.toList = _
  simp
theorem bx_cut (a : ByteArray) (i j : Nat) : (a.extract i j).data.toList = (a.data.toList.drop i).take (j - i) := by
  rw [ByteArray.data_extract, Array.toList_extract, List.extract_eq_take_drop]
theorem bx_len (a : ByteArray) : a.data.toList.length = a.size := by simp
theorem bx_get (a : ByteArray) (i : Nat) : a.data[i]? = a.data.toList[i]? := (Array.getElem?_toList).symm
theorem bx_cutsize (a : ByteArray) (i j : Nat) (hij : i ≤ j) (h : j ≤ a.size) : (a.extract i j).size = j - i := by
  rw [← bx_len, bx_cut, List.length_take, List.length_drop, bx_len]
  omega
theorem rb4_of (t : ByteArray) (a : Nat) : rb t a 4 = 16777216 * (byteAt t a : Int) + 65536 * (byteAt t (a + 1) : Int) + 256 * (byteAt t (a + 2) : Int) + (byteAt t (a + 3) : Int) := by
  show 256 * (256 * (256 * (256 * 0 + (byteAt t (a + 0) : Int)) + (byteAt t (a + 1) : Int)) + (byteAt t (a + 2) : Int)) + (byteAt t (a + 3) : Int) = _
  rw [Nat.add_zero]
  omega
theorem u8_of {x : Int} (h0 : 0 ≤ x) (h1 : x < 256) : ((UInt8.ofNat x.toNat).toNat : Int) = x := by
  rw [UInt8.toNat_ofNat', Nat.mod_eq_of_lt (by omega)]
  omega
end ChunkMath
end Go.Proofs.Ytcnlcbkgbcnloaa
