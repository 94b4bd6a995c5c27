/-
  Plain facts on the other sum: a word halved, with a turn where it was odd; nothing here speaks of the program.
-/
import Derived.WalkKit
import Derived.Laws.BitsAllLaws
namespace Go.Proofs.Ytkpbfmdnjnohlaa
namespace CrcMath

def byteAt (s : ByteArray) (i : Nat) : Nat := (s.data[i]?.getD 0).toNat
theorem byteAt_lt (s : ByteArray) (i : Nat) : byteAt s i < 256 := UInt8.toNat_lt _
theorem byteAt_get (s : ByteArray) (i : Nat) (h : i < s.size) : (s[i]'h).toNat = byteAt s i := by
  unfold byteAt
  have h' : i < s.data.size := h
  rw [Array.getElem?_eq_getElem h']
  rfl

def half (x : Nat) : Nat := if x % 2 = 1 then (x / 2) ^^^ 3988292384 else x / 2
def halves (x : Nat) : Nat → Nat
  | 0 => x
  | k + 1 => half (halves x k)
/-- A sum taken on by one byte of nothing. -/
def zstep (x : Nat) : Nat := halves x 8
/-- By k bytes of nothing. -/
def zsteps (x : Nat) : Nat → Nat
  | 0 => x
  | k + 1 => zstep (zsteps x k)
/-- By the first k bytes of s. -/
def crcAt (x : Nat) (s : ByteArray) : Nat → Nat
  | 0 => x
  | k + 1 => zstep (crcAt x s k ^^^ byteAt s k)
def crc (x : Nat) (s : ByteArray) : Nat := crcAt (x ^^^ 4294967295) s s.size ^^^ 4294967295

theorem xor_lt {a b : Nat} (ha : a < 4294967296) (hb : b < 4294967296) : a ^^^ b < 4294967296 := Nat.xor_lt_two_pow (n := 32) ha hb
theorem half_lt {x : Nat} (h : x < 4294967296) : half x < 4294967296 := by
  unfold half
  split
  · exact xor_lt (by omega) (by omega)
  · omega
theorem halves_lt {x : Nat} (h : x < 4294967296) : ∀ k, halves x k < 4294967296
  | 0 => h
  | k + 1 => half_lt (halves_lt h k)
theorem step_lt {x : Nat} (h : x < 4294967296) : zstep x < 4294967296 := halves_lt h 8
theorem steps_lt {x : Nat} (h : x < 4294967296) : ∀ k, zsteps x k < 4294967296
  | 0 => h
  | k + 1 => step_lt (steps_lt h k)
theorem crcAt_lt {x : Nat} (s : ByteArray) (h : x < 4294967296) : ∀ k, crcAt x s k < 4294967296
  | 0 => h
  | k + 1 => step_lt (xor_lt (crcAt_lt s h k) (by have := byteAt_lt s k; omega))
theorem crc_lt {x : Nat} (s : ByteArray) (h : x < 4294967296) : crc x s < 4294967296 := xor_lt (crcAt_lt s (xor_lt h (by omega)) _) (by omega)

theorem half_xor (a b : Nat) : half (a ^^^ b) = half a ^^^ half b := by
  unfold half
  have h : (a ^^^ b) % 2 = (a + b) % 2 := by
    have k := Nat.xor_mod_two_eq_one (a := a) (b := b)
    omega
  rw [Nat.xor_div_two, h]
  have ha : a % 2 = 0 ∨ a % 2 = 1 := by omega
  have hb : b % 2 = 0 ∨ b % 2 = 1 := by omega
  rcases ha with ha | ha <;> rcases hb with hb | hb
  · rw [if_neg (by omega), if_neg (by omega), if_neg (by omega)]
  · rw [if_pos (by omega), if_neg (by omega), if_pos (by omega), Nat.xor_assoc]
  · rw [if_pos (by omega), if_pos (by omega), if_neg (by omega), Nat.xor_assoc, Nat.xor_assoc, Nat.xor_comm (b / 2)]
  · rw [if_neg (by omega), if_pos (by omega), if_pos (by omega), Nat.xor_assoc, ← Nat.xor_assoc 3988292384, Nat.xor_comm 3988292384, Nat.xor_assoc, Nat.xor_self, Nat.xor_zero]
theorem halves_xor (a b : Nat) : ∀ k, halves (a ^^^ b) k = halves a k ^^^ halves b k
  | 0 => rfl
  | k + 1 => by show half (halves (a ^^^ b) k) = _; rw [halves_xor a b k, half_xor]; rfl
theorem step_xor (a b : Nat) : zstep (a ^^^ b) = zstep a ^^^ zstep b := halves_xor a b 8

theorem xor_cancel {a b c : Nat} (e : a ^^^ c = b ^^^ c) : a = b := by
  have := congrArg (· ^^^ c) e
  simpa [Nat.xor_assoc] using this
theorem xor_zero_eq {a b : Nat} (e : a ^^^ b = 0) : a = b := xor_cancel (c := b) (by rw [e, Nat.xor_self])

theorem half_zero {z : Nat} (h : z < 4294967296) (e : half z = 0) : z = 0 := by
  unfold half at e
  split at e
  · have k : z / 2 = 3988292384 := xor_zero_eq e
    omega
  · omega
theorem halves_zero {z : Nat} (h : z < 4294967296) : ∀ k, halves z k = 0 → z = 0
  | 0, e => e
  | k + 1, e => halves_zero h k (half_zero (halves_lt h k) e)
theorem step_inj {a b : Nat} (ha : a < 4294967296) (hb : b < 4294967296) (e : zstep a = zstep b) : a = b := by
  have k : zstep (a ^^^ b) = 0 := by rw [step_xor, e, Nat.xor_self]
  exact xor_zero_eq (halves_zero (xor_lt ha hb) 8 k)

/-- Joined: taken on by a text from two words at once. -/
theorem crcAt_xor (x y : Nat) (s : ByteArray) : ∀ k, crcAt (x ^^^ y) s k = zsteps x k ^^^ crcAt y s k
  | 0 => rfl
  | k + 1 => by
    show zstep (crcAt (x ^^^ y) s k ^^^ byteAt s k) = zstep (zsteps x k) ^^^ zstep (crcAt y s k ^^^ byteAt s k)
    rw [crcAt_xor x y s k, Nat.xor_assoc, step_xor]

/-- Two texts, one behind the other. -/
theorem crcAt_front (x : Nat) (a c : ByteArray) (n : Nat) (h : ∀ i, i < n → byteAt c i = byteAt a i) : ∀ k, k ≤ n → crcAt x c k = crcAt x a k
  | 0, _ => rfl
  | k + 1, hk => by
    show zstep (crcAt x c k ^^^ byteAt c k) = zstep (crcAt x a k ^^^ byteAt a k)
    rw [crcAt_front x a c n h k (by omega), h k (by omega)]
theorem crcAt_back (x : Nat) (b c : ByteArray) (n : Nat) (m : Nat) (h : ∀ i, i < m → byteAt c (n + i) = byteAt b i) : ∀ k, k ≤ m → crcAt x c (n + k) = crcAt (crcAt x c n) b k
  | 0, _ => rfl
  | k + 1, hk => by
    show zstep (crcAt x c (n + k) ^^^ byteAt c (n + k)) = zstep (crcAt (crcAt x c n) b k ^^^ byteAt b k)
    rw [crcAt_back x b c n m h k (by omega), h k (by omega)]

/-- One byte turned. -/
theorem crcAt_turned (x : Nat) (hx : x < 4294967296) (s t : ByteArray) (i : Nat) (hd : byteAt s i ≠ byteAt t i) (h : ∀ j, j ≠ i → byteAt s j = byteAt t j) : ∀ k, i < k → crcAt x s k ≠ crcAt x t k
  | 0, hk => absurd hk (Nat.not_lt_zero i)
  | k + 1, hk => by
    intro e
    have e' : zstep (crcAt x s k ^^^ byteAt s k) = zstep (crcAt x t k ^^^ byteAt t k) := e
    have b1 := byteAt_lt s k
    have b2 := byteAt_lt t k
    have e2 := step_inj (xor_lt (crcAt_lt s hx k) (by omega)) (xor_lt (crcAt_lt t hx k) (by omega)) e'
    by_cases hki : k = i
    · subst hki
      have e3 := crcAt_front x t s k (fun j hj => h j (by omega)) k (Nat.le_refl k)
      rw [e3, Nat.xor_comm, Nat.xor_comm _ (byteAt t k)] at e2
      exact hd (xor_cancel e2)
    · rw [h k hki] at e2
      exact crcAt_turned x hx s t i hd h k (by omega) (xor_cancel e2)

theorem xor32 (a b : Nat) (ha : a < 4294967296) (hb : b < 4294967296) : bits .xor .u32 (a : Int) (b : Int) = ((a ^^^ b : Nat) : Int) := u32_xor_nat a b ha hb
theorem half_odd (x : Nat) (hx : x < 4294967296) (h : x % 2 = 1) : bits .xor .u32 ((x : Int) / 2) 3988292384 = (half x : Int) := by
  have e := xor32 (x / 2) 3988292384 (by omega) (by omega)
  have c : (((x / 2 : Nat)) : Int) = (x : Int) / 2 := by omega
  rw [c] at e
  rw [show (3988292384 : Int) = ((3988292384 : Nat) : Int) from rfl, e]
  unfold half
  rw [if_pos h]
theorem half_even (x : Nat) (h : x % 2 = 0) : (x : Int) / 2 = (half x : Int) := by
  unfold half
  rw [if_neg (by omega)]
  omega
theorem xor_ones (x : Nat) (hx : x < 4294967296) : bits .xor .u32 (x : Int) 4294967295 = ((x ^^^ 4294967295 : Nat) : Int) := xor32 x 4294967295 hx (by omega)

end CrcMath
end Go.Proofs.Ytkpbfmdnjnohlaa
