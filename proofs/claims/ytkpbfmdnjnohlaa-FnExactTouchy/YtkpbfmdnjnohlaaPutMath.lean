/-
  Plain facts on bits that are put into bytes, the lowest of each byte first; nothing here speaks of the program.
-/
import Derived.Test.YtkpbfmdnjnohlaaOutMath
import Derived.WalkKit
import Derived.Laws.BitsAllLaws
namespace Go.Proofs.Ytkpbfmdnjnohlaa
namespace PutMath
open OutMath

/-- The bytes with room for one bit more. -/
def pre (xs : List Int) (c : Nat) : List Int := if c % 8 = 0 then xs ++ [0] else xs
/-- The bytes with one bit more, the bit c. -/
def bstep (xs : List Int) (c : Nat) (b : Int) : List Int := (pre xs c).set (c / 8) ((pre xs c).getD (c / 8) 0 + b * p2 (c % 8))
/-- As many bytes as c bits need, those of the last that were not put being 0. -/
def Inv (xs : List Int) (c : Nat) : Prop := xs.length = (c + 7) / 8 ∧ (c % 8 ≠ 0 → 0 ≤ xs.getD (c / 8) 0 ∧ xs.getD (c / 8) 0 < p2 (c % 8))

theorem pre_len {xs : List Int} {c : Nat} (h : Inv xs c) : (pre xs c).length = c / 8 + 1 := by
  obtain ⟨h1, h2⟩ := h
  unfold pre
  split
  · rw [List.length_append, h1]; simp; omega
  · rw [h1]; omega
theorem pre_last {xs : List Int} {c : Nat} (h : Inv xs c) : 0 ≤ (pre xs c).getD (c / 8) 0 ∧ (pre xs c).getD (c / 8) 0 < p2 (c % 8) := by
  obtain ⟨h1, h2⟩ := h
  unfold pre
  split
  · rename_i h0
    have e : xs.length = c / 8 := by omega
    rw [h0, p2_zero, List.getD_eq_getElem?_getD, List.getElem?_append_right (by omega), e]
    simp
  · rename_i h0
    exact h2 h0
theorem mul01 (b q : Int) (h0 : 0 ≤ b) (h1 : b ≤ 1) (hq : 1 ≤ q) : 0 ≤ b * q ∧ b * q ≤ q := by
  have : b = 0 ∨ b = 1 := by omega
  rcases this with rfl | rfl <;> omega
theorem bstep_len {xs : List Int} {c : Nat} (b : Int) (h : Inv xs c) : (bstep xs c b).length = c / 8 + 1 := by
  unfold bstep
  rw [List.length_set, pre_len h]
theorem inv_step {xs : List Int} {c : Nat} {b : Int} (h : Inv xs c) (h0 : 0 ≤ b) (h1 : b ≤ 1) : Inv (bstep xs c b) (c + 1) := by
  have hl := pre_len h
  have hp := pre_last h
  refine ⟨by rw [bstep_len b h]; omega, fun hc => ?_⟩
  have e1 : (c + 1) / 8 = c / 8 := by omega
  have e2 : (c + 1) % 8 = c % 8 + 1 := by omega
  have hm := mul01 b (p2 (c % 8)) h0 h1 (p2_pos _)
  rw [e1, e2, p2_succ]
  unfold bstep
  have e3 : ((pre xs c).set (c / 8) ((pre xs c).getD (c / 8) 0 + b * p2 (c % 8))).getD (c / 8) 0 = (pre xs c).getD (c / 8) 0 + b * p2 (c % 8) := by
    rw [List.getD_eq_getElem?_getD, List.getElem?_set_self (by omega)]
    rfl
  rw [e3]
  omega

/-- The bytes behind k bits, of which f tells each. -/
def puts (xs : List Int) (c : Nat) (f : Nat → Int) : Nat → List Int
  | 0 => xs
  | k + 1 => bstep (puts xs c f k) (c + k) (f k)
theorem inv_puts {xs : List Int} {c : Nat} {f : Nat → Int} (h : Inv xs c) (hf : ∀ k, 0 ≤ f k ∧ f k ≤ 1) : ∀ k, Inv (puts xs c f k) (c + k)
  | 0 => h
  | k + 1 => inv_step (inv_puts h hf k) (hf k).1 (hf k).2

theorem p2_8 {r : Nat} (h : r < 8) : p2 r ≤ 128 := by
  have h1 := p2_le (show r ≤ 7 by omega)
  have h2 : p2 7 = 128 := by decide +kernel
  omega

/-- A bit of a number. -/
def bitOf (x : Int) (k : Nat) : Int := x / p2 k % 2
theorem bitOf_01 (x : Int) (k : Nat) : 0 ≤ bitOf x k ∧ bitOf x k ≤ 1 := by unfold bitOf; omega
theorem bitOf_walk (x : Int) (k : Nat) (h0 : 0 ≤ x) (h1 : x ≤ 16777216) : (Go.RowKit.wrap64 (x / p2 k)).tmod 2 = bitOf x k := by
  have hp := p2_pos k
  have a := Int.ediv_nonneg h0 (show 0 ≤ p2 k by omega)
  have b := Int.ediv_le_self (p2 k) h0
  have e : Go.RowKit.wrap64 (x / p2 k) = x / p2 k := by unfold Go.RowKit.wrap64; omega
  rw [e, Int.tmod_eq_emod_of_nonneg a]
  rfl

theorem bitOf_walk' (x : Int) (k : Nat) (h0 : 0 ≤ x) : (x / p2 k).tmod 2 = bitOf x k := by
  have a := Int.ediv_nonneg h0 (show 0 ≤ p2 k by have := p2_pos k; omega)
  rw [Int.tmod_eq_emod_of_nonneg a]
  rfl

/-- Below two to the r a byte, and a bit at r: 'or' is plus. -/
theorem or_put (y b : Int) (r : Nat) (hr : r < 8) (h0 : 0 ≤ y) (h1 : y < p2 r) (b0 : 0 ≤ b) (b1 : b ≤ 1) : bits .or .u8 y (Go.RowKit.wrap64 (b * 2 ^ r) % 256) = y + b * p2 r := by
  have hm := mul01 b (p2 r) b0 b1 (p2_pos r)
  have hp := p2_8 hr
  have e : Go.RowKit.wrap64 (b * 2 ^ r) % 256 = b * p2 r := by
    show Go.RowKit.wrap64 (b * p2 r) % 256 = _
    unfold Go.RowKit.wrap64; omega
  rw [e]
  obtain ⟨n, rfl⟩ := Int.eq_ofNat_of_zero_le h0
  obtain ⟨m, rfl⟩ := Int.eq_ofNat_of_zero_le b0
  rw [p2_nat] at h1 hm hp ⊢
  rw [show ((m : Int) * ((2 ^ r : Nat) : Int)) = ((m * 2 ^ r : Nat) : Int) from (Int.natCast_mul _ _).symm] at hm ⊢
  rw [u8_or_nat _ _ (by omega) (by omega), Nat.or_comm, nat_join r (m * 2 ^ r) n (by simp) (by omega)]
  omega

theorem i64_and_nat (a b : Nat) (ha : a < 9223372036854775808) (hb : b < 9223372036854775808) : bits .and .i64 (a : Int) (b : Int) = ((a &&& b : Nat) : Int) := by
  have h1 : (BitVec.ofInt 64 (a : Int)).toNat = a := by
    rw [BitVec.ofInt_natCast, BitVec.toNat_ofNat]; exact Nat.mod_eq_of_lt (by omega)
  have h2 : (BitVec.ofInt 64 (b : Int)).toNat = b := by
    rw [BitVec.ofInt_natCast, BitVec.toNat_ofNat]; exact Nat.mod_eq_of_lt (by omega)
  have hx : a &&& b < 2 ^ 63 := Nat.and_lt_two_pow _ (by omega)
  show IntKind.i64.wrap ((BitVec.ofInt 64 (a : Int) &&& BitVec.ofInt 64 (b : Int)).toNat : Int) = _
  rw [BitVec.toNat_and, h1, h2, IntKind.wrap_i64]
  omega
theorem bit_shr (x : Int) (k : Nat) (h0 : 0 ≤ x) (h1 : x ≤ 16777216) (_hk : k ≤ 24) : bits .and .i64 (x / 2 ^ k) 1 = bitOf x k := by
  have a := Int.ediv_nonneg h0 (show 0 ≤ p2 k by have := p2_pos k; omega)
  have b := Int.ediv_le_self (p2 k) h0
  show bits .and .i64 (x / p2 k) 1 = x / p2 k % 2
  generalize x / p2 k = y at *
  obtain ⟨n, rfl⟩ := Int.eq_ofNat_of_zero_le a
  have := i64_and_nat n 1 (by omega) (by omega)
  rw [nat_mask1] at this
  rw [show ((1 : Nat) : Int) = 1 from rfl] at this
  rw [this]
  omega

end PutMath
end Go.Proofs.Ytkpbfmdnjnohlaa
