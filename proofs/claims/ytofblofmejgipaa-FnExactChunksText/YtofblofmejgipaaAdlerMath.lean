/-
  Plain facts on the Adler sum; nothing here speaks of the program.
-/
import Derived.WalkKit
import Derived.Laws.BitsAllLaws
namespace Go.Proofs.Ytofblofmejgipaa
namespace AdlerMath

def byteAt (s : ByteArray) (i : Nat) : Nat := (s.data[i]?.getD 0).toNat
theorem byteAt_lt (s : ByteArray) (i : Nat) : byteAt s i < 256 := UInt8.toNat_lt _
theorem byteAt_get (s : ByteArray) (i : Nat) (h : i < s.size) : (s[i]'h).toNat = byteAt s i := by
  unfold byteAt
  have h' : i < s.data.size := h
  rw [Array.getElem?_eq_getElem h']
  rfl

/-- Both halves behind k bytes of s. -/
def adP (s : ByteArray) (p : Int) : Nat → Int
  | 0 => p
  | k + 1 => (adP s p k + (byteAt s k : Int)) % 65521
def adQ (s : ByteArray) (p q : Int) : Nat → Int
  | 0 => q
  | k + 1 => (adQ s p q k + adP s p (k + 1)) % 65521
theorem adP_succ (s : ByteArray) (p : Int) (k : Nat) : adP s p (k + 1) = (adP s p k + (byteAt s k : Int)) % 65521 := rfl
theorem adQ_succ (s : ByteArray) (p q : Int) (k : Nat) : adQ s p q (k + 1) = (adQ s p q k + adP s p (k + 1)) % 65521 := rfl
theorem adP_bd (s : ByteArray) (p : Int) (h0 : 0 ≤ p) (h1 : p < 65521) : ∀ k, 0 ≤ adP s p k ∧ adP s p k < 65521
  | 0 => ⟨h0, h1⟩
  | k + 1 => by rw [adP_succ]; omega
theorem adQ_bd (s : ByteArray) (p q : Int) (h0 : 0 ≤ q) (h1 : q < 65521) : ∀ k, 0 ≤ adQ s p q k ∧ adQ s p q k < 65521
  | 0 => ⟨h0, h1⟩
  | k + 1 => by rw [adQ_succ]; omega

/-- The sum gone on with. -/
def adler (x : Int) (s : ByteArray) : Int := adQ s (x % 65536 % 65521) (x / 65536 % 65521) s.size * 65536 + adP s (x % 65536 % 65521) s.size

/-- What the join comes to. -/
def joined (a b n : Int) : Int :=
  (a / 65536 % 65521 + b / 65536 % 65521 + n * (a % 65536 % 65521 + 65520)) % 65521 * 65536 + (a % 65536 % 65521 + b % 65536 % 65521 + 65520) % 65521

theorem and_low (x : Int) (h0 : 0 ≤ x) (h1 : x ≤ 4294967295) : bits .and .u32 x 65535 = x % 65536 := by
  rw [u32_and x 65535 h0 (by omega) (by omega) (by omega)]
  show ((x.toNat &&& 65535 : Nat) : Int) = _
  rw [nat_mask16]
  omega

theorem or_word (p q : Int) (h0 : 0 ≤ p) (h1 : p < 65521) (h2 : 0 ≤ q) (h3 : q < 65521) : bits .or .u32 (q * 65536) p = q * 65536 + p := by
  rw [u32_or _ _ (by omega) (by omega) h0 (by omega), nat_join 16 _ _ (by omega) (by omega)]
  omega

end AdlerMath
end Go.Proofs.Ytofblofmejgipaa
