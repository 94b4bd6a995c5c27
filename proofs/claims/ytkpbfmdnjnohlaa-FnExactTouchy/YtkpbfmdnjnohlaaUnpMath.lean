/-
  Samples out of a text, in plain numbers: by the document's model, and as the program reckons them.
-/
import Derived.Test.YtkpbfmdnjnohlaaOutMath
import Derived.Test.YtkpbfmdnjnohlaaPutMath
import Derived.Test.YtkpbfmdnjnohlaaTakeMath
import Derived.Test.YtkpbfmdnjnohlaaBitsMath
import Derived.Test.YtkpbfmdnjnohlaaRastMath
import Derived.Test.YtkpbfmdnjnohlaaRowMath12
import Derived.WalkKit
namespace Go.Proofs.Ytkpbfmdnjnohlaa
open Go.RowKit OutMath PutMath TakeMath BitsMath RastMath

/-- May a row be read? -/
def UnpR (s : ByteArray) (c d : Int) : Prop := Five d ∧ (0 ≤ c ∧ c ≤ 96) ∧ (s.size : Int) = (c * d + 7) / 8
/-- The samples of a row. -/
def smp (s : ByteArray) (d i : Nat) : Int := unpackS (fun j => (byteAt s j : Int)) d i
def smps (s : ByteArray) (d n : Nat) : List Int := (List.range n).map (smp s d)
theorem smps_next (s : ByteArray) (d n : Nat) : smps s d (n + 1) = smps s d n ++ [smp s d n] := by simp [smps, List.range_succ]
theorem smps_length (s : ByteArray) (d n : Nat) : (smps s d n).length = n := by simp [smps]
theorem p2_add (a : Nat) : ∀ b, p2 (a + b) = p2 a * p2 b
  | 0 => by rw [p2_zero, Nat.add_zero, Int.mul_one]
  | b + 1 => by rw [← Nat.add_assoc, p2_succ, p2_add a b, p2_succ, Int.mul_left_comm]
/-- A number by its bits, in two parts. -/
theorem hb_split (g : Nat → Int) (a : Nat) : ∀ b, hb g (a + b) = hb g a * p2 b + hb (fun k => g (a + k)) b
  | 0 => by show hb g a = hb g a * p2 0 + 0; rw [p2_zero]; omega
  | b + 1 => by
    show 2 * hb g (a + b) + g (a + b) = hb g a * p2 (b + 1) + (2 * hb (fun k => g (a + k)) b + g (a + b))
    rw [hb_split g a b, p2_succ, Int.mul_left_comm]
    omega
theorem hb_zero : ∀ m, hb (fun _ => 0) m = 0
  | 0 => rfl
  | m + 1 => by show 2 * hb _ m + 0 = 0; rw [hb_zero m]; omega
/-- A bit of what is left of a number. -/
theorem bitOf_mod (x : Int) {d m : Nat} (h : m < d) : bitOf (x % p2 d) m = bitOf x m := by
  unfold bitOf
  obtain ⟨e, rfl⟩ : ∃ e, d = m + (e + 1) := ⟨d - m - 1, by omega⟩
  have hp := p2_pos m
  have h1 : x = x % p2 (m + (e + 1)) + p2 m * (2 * p2 e * (x / p2 (m + (e + 1)))) := by
    have h2 := Int.emod_add_mul_ediv x (p2 (m + (e + 1)))
    rw [p2_add m (e + 1), p2_succ] at h2 ⊢
    rw [Int.mul_assoc] at h2
    exact h2.symm
  have h3 : x / p2 m = x % p2 (m + (e + 1)) / p2 m + 2 * (p2 e * (x / p2 (m + (e + 1)))) := by
    have h4 : x / p2 m = (x % p2 (m + (e + 1)) + p2 m * (2 * p2 e * (x / p2 (m + (e + 1))))) / p2 m := congrArg (· / p2 m) h1
    rw [h4, Int.add_mul_ediv_left _ _ (by omega), Int.mul_assoc]
  rw [h3]
  omega
theorem bitOf_div (x : Int) (a m : Nat) : bitOf (x / p2 a) m = bitOf x (a + m) := by
  unfold bitOf
  have := p2_pos a
  rw [Int.ediv_ediv_of_nonneg (by omega), p2_add]
/-- A sample of fewer than sixteen bits, within one byte. -/
theorem smp_small (s : ByteArray) (d i : Nat) (h : i * d % 8 + d ≤ 8) : smp s d i = (byteAt s (i * d / 8) : Int) / p2 (8 - d - i * d % 8) % p2 d := by
  generalize hr : i * d = r at h ⊢
  obtain ⟨B, hB⟩ : ∃ B : Int, B = (byteAt s (r / 8) : Int) := ⟨_, rfl⟩
  rw [← hB]
  have hp := p2_pos d
  have e : smp s d i = hb (fun k => bitOf (B / p2 (8 - d - r % 8) % p2 d) (d - 1 - k)) d := by
    refine hb_congr d fun k hk => ?_
    show bitOf (byteAt s ((i * d + k) / 8) : Int) (7 - (i * d + k) % 8) = _
    rw [hr, show (r + k) / 8 = r / 8 by omega, ← hB, bitOf_mod _ (by omega), bitOf_div, show 7 - (r + k) % 8 = 8 - d - r % 8 + (d - 1 - k) by omega]
  rw [e, hb_num _ d (Int.emod_nonneg _ (by omega)) (Int.emod_lt_of_pos _ (by omega)) d (Nat.le_refl _), Nat.sub_self, p2_zero]
  omega
/-- One of sixteen bits: two bytes. -/
theorem smp_two (s : ByteArray) (i : Nat) : smp s 16 i = 256 * (byteAt s (2 * i) : Int) + (byteAt s (2 * i + 1) : Int) := by
  have e0 : hb (fun k => bitOf (byteAt s ((i * 16 + k) / 8) : Int) (7 - (i * 16 + k) % 8)) 8 = (byteAt s (2 * i) : Int) := by
    have hl := byteAt_lt s (2 * i)
    refine (hb_congr 8 (h := fun k => bitOf (byteAt s (2 * i) : Int) (8 - 1 - k)) fun k hk => ?_).trans ?_
    · show bitOf _ _ = bitOf _ _
      rw [show (i * 16 + k) / 8 = 2 * i by omega, show 7 - (i * 16 + k) % 8 = 8 - 1 - k by omega]
    · rw [hb_num _ 8 (by omega) (by rw [show p2 8 = 256 by decide +kernel]; omega) 8 (Nat.le_refl _), Nat.sub_self, p2_zero]
      omega
  have e1 : hb (fun k => (fun k => bitOf (byteAt s ((i * 16 + k) / 8) : Int) (7 - (i * 16 + k) % 8)) (8 + k)) 8 = (byteAt s (2 * i + 1) : Int) := by
    have hl := byteAt_lt s (2 * i + 1)
    refine (hb_congr 8 (h := fun k => bitOf (byteAt s (2 * i + 1) : Int) (8 - 1 - k)) fun k hk => ?_).trans ?_
    · show bitOf _ _ = bitOf _ _
      rw [show (i * 16 + (8 + k)) / 8 = 2 * i + 1 by omega, show 7 - (i * 16 + (8 + k)) % 8 = 8 - 1 - k by omega]
    · rw [hb_num _ 8 (by omega) (by rw [show p2 8 = 256 by decide +kernel]; omega) 8 (Nat.le_refl _), Nat.sub_self, p2_zero]
      omega
  have hs := hb_split (fun k => bitOf (byteAt s ((i * 16 + k) / 8) : Int) (7 - (i * 16 + k) % 8)) 8 8
  show hb _ (8 + 8) = _
  rw [hs, e0, e1, show p2 8 = 256 by decide +kernel]
  omega
/-- The last bits of a number. -/
theorem and_mask (x : Int) (d : Nat) (h0 : 0 ≤ x) (h1 : x < 9223372036854775808) (hd : d ≤ 16) : bits .and .i64 x (p2 d - 1) = x % p2 d := by
  obtain ⟨n, rfl⟩ := Int.eq_ofNat_of_zero_le h0
  have hp : 1 ≤ 2 ^ d := Nat.one_le_two_pow
  have hle : 2 ^ d ≤ 2 ^ 16 := Nat.pow_le_pow_right (by omega) hd
  have := TakeMath.i64_and_nat n (2 ^ d - 1) (by omega) (by omega)
  rw [Nat.and_two_pow_sub_one_eq_mod] at this
  rw [p2_nat, show (((2 ^ d : Nat) : Int) - 1) = ((2 ^ d - 1 : Nat) : Int) by omega, this, Int.natCast_emod]
theorem or_two (a b : Int) (h0 : 0 ≤ a) (h1 : a < 256) (h2 : 0 ≤ b) (h3 : b < 256) : bits .or .i64 (a * 256) b = 256 * a + b := by
  obtain ⟨n, rfl⟩ := Int.eq_ofNat_of_zero_le h0
  obtain ⟨m, rfl⟩ := Int.eq_ofNat_of_zero_le h2
  have := TakeMath.i64_or_nat (n * 256) m (by omega) (by omega)
  have e : n * 256 ||| m = n * 256 + m := by
    have := Nat.two_pow_add_eq_or_of_lt (i := 8) (b := m) (by omega) n
    rw [show (2 : Nat) ^ 8 = 256 from rfl, Nat.mul_comm] at this
    exact this.symm
  rw [e] at this
  rw [show ((n : Int) * 256) = ((n * 256 : Nat) : Int) by simp, this]
  omega
/-- A depth that is not 16 fits into one byte at each place. -/
theorem five_place {d : Nat} (h : Five (d : Int)) (h16 : ¬ d = 16) (i : Nat) : i * d % 8 + d ≤ 8 := by
  have : d = 1 ∨ d = 2 ∨ d = 4 ∨ d = 8 := by
    unfold Five at h
    omega
  rcases this with rfl | rfl | rfl | rfl <;> omega
end Go.Proofs.Ytkpbfmdnjnohlaa
