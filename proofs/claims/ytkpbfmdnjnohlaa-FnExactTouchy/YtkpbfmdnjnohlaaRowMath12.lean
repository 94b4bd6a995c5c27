/-
  Samples in bytes, and back, in plain numbers. Nothing here speaks of the program.
-/
import Derived.Test.YtkpbfmdnjnohlaaOutMath
import Derived.Test.YtkpbfmdnjnohlaaPutMath
import Derived.Test.YtkpbfmdnjnohlaaBitsMath
namespace Go.Proofs.Ytkpbfmdnjnohlaa
namespace RastMath
open OutMath PutMath BitsMath

/-- A number by its bits, the highest first. -/
def hb (g : Nat → Int) : Nat → Int
  | 0 => 0
  | k + 1 => 2 * hb g k + g k
theorem hb_congr {g h : Nat → Int} : ∀ m, (∀ k, k < m → g k = h k) → hb g m = hb h m
  | 0, _ => rfl
  | m + 1, e => by
    show 2 * hb g m + g m = 2 * hb h m + h m
    rw [hb_congr m fun k hk => e k (by omega), e m (by omega)]
theorem hb_range {g : Nat → Int} (h : ∀ k, 0 ≤ g k ∧ g k ≤ 1) : ∀ m, 0 ≤ hb g m ∧ hb g m < p2 m
  | 0 => by rw [p2_zero]; exact ⟨Int.le_refl _, by show (0 : Int) < 1; omega⟩
  | m + 1 => by
    have h1 := hb_range h m
    have h2 := h m
    rw [p2_succ]
    show 0 ≤ 2 * hb g m + g m ∧ 2 * hb g m + g m < 2 * p2 m
    omega
/-- Each bit is told by it. -/
theorem hb_bit {g : Nat → Int} (h : ∀ k, 0 ≤ g k ∧ g k ≤ 1) : ∀ m k, k < m → bitOf (hb g m) (m - 1 - k) = g k
  | 0, _, hk => by omega
  | m + 1, k, hk => by
    have h2 := h m
    by_cases e : k = m
    · subst e
      show (2 * hb g k + g k) / p2 (k + 1 - 1 - k) % 2 = g k
      rw [show k + 1 - 1 - k = 0 by omega, p2_zero]
      omega
    · have ih := hb_bit h m k (by omega)
      have hp := p2_pos (m - 1 - k)
      show (2 * hb g m + g m) / p2 (m + 1 - 1 - k) % 2 = g k
      rw [show m + 1 - 1 - k = (m - 1 - k) + 1 by omega, p2_succ, ← Int.ediv_ediv_of_nonneg (by omega), show (2 * hb g m + g m) / 2 = hb g m by omega]
      exact ih
/-- A number is told by its bits. -/
theorem hb_num (x : Int) (d : Nat) (h0 : 0 ≤ x) (h1 : x < p2 d) : ∀ j, j ≤ d → hb (fun k => bitOf x (d - 1 - k)) j = x / p2 (d - j)
  | 0, _ => by
    show (0 : Int) = _
    rw [Nat.sub_zero]
    exact (Int.ediv_eq_zero_of_lt h0 h1).symm
  | j + 1, hj => by
    show 2 * hb _ j + bitOf x (d - 1 - j) = _
    rw [hb_num x d h0 h1 j (by omega)]
    exact code_step x d j (by omega)
theorem bitOf_range (x : Int) (i : Nat) : 0 ≤ bitOf x i ∧ bitOf x i ≤ 1 := by
  unfold bitOf
  omega
/-- The bits of samples, one behind the other; behind them zeros. -/
def rowBit (f : Nat → Int) (n d j : Nat) : Int := if j < n * d then bitOf (f (j / d)) (d - 1 - j % d) else 0
theorem rowBit_range (f : Nat → Int) (n d j : Nat) : 0 ≤ rowBit f n d j ∧ rowBit f n d j ≤ 1 := by
  unfold rowBit
  split
  · exact bitOf_range _ _
  · omega
/-- A row's byte. -/
def packB (f : Nat → Int) (n d i : Nat) : Int := hb (fun k => rowBit f n d (8 * i + k)) 8
theorem packB_range (f : Nat → Int) (n d i : Nat) : 0 ≤ packB f n d i ∧ packB f n d i < 256 := hb_range (fun k => rowBit_range f n d (8 * i + k)) 8
/-- A sample, out of a row's bytes. -/
def unpackS (b : Nat → Int) (d i : Nat) : Int := hb (fun k => bitOf (b ((i * d + k) / 8)) (7 - (i * d + k) % 8)) d
/-- Samples come back from their bytes. -/
theorem unpack_pack {f : Nat → Int} {n d i : Nat} (hi : i < n) (h0 : 0 ≤ f i) (h1 : f i < p2 d) : unpackS (packB f n d) d i = f i := by
  have e : unpackS (packB f n d) d i = hb (fun k => bitOf (f i) (d - 1 - k)) d := by
    refine hb_congr d fun k hk => ?_
    have hb := hb_bit (fun q => rowBit_range f n d (8 * ((i * d + k) / 8) + q)) 8 ((i * d + k) % 8) (by omega)
    show bitOf (packB f n d ((i * d + k) / 8)) (7 - (i * d + k) % 8) = _
    unfold packB
    rw [show 7 - (i * d + k) % 8 = 8 - 1 - (i * d + k) % 8 by omega, hb, show 8 * ((i * d + k) / 8) + (i * d + k) % 8 = i * d + k by omega]
    have hlt : i * d + k < n * d := by
      have : (i + 1) * d ≤ n * d := Nat.mul_le_mul_right d hi
      rw [Nat.add_mul] at this
      omega
    have hd : 0 < d := by omega
    unfold rowBit
    rw [if_pos hlt, show (i * d + k) / d = i by rw [Nat.mul_comm, Nat.mul_add_div hd, Nat.div_eq_of_lt hk]; omega, show (i * d + k) % d = k by rw [Nat.mul_comm, Nat.mul_add_mod, Nat.mod_eq_of_lt hk]]
  rw [e, hb_num (f i) d h0 h1 d (Nat.le_refl _), Nat.sub_self, p2_zero]
  omega
end RastMath
end Go.Proofs.Ytkpbfmdnjnohlaa
