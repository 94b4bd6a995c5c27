/-
  Bits that are put are taken again, in the same order; nothing here speaks of the program.
-/
import Derived.Test.YtkpbfmdnjnohlaaOutMath
import Derived.Test.YtkpbfmdnjnohlaaPutMath
import Derived.Test.YtkpbfmdnjnohlaaTakeMath
import Derived.WalkKit
import Derived.Laws.BytesArg
namespace Go.Proofs.Ytkpbfmdnjnohlaa
namespace BitsMath
open OutMath PutMath TakeMath

theorem p2_add (a : Nat) : ∀ b, p2 (a + b) = p2 a * p2 b
  | 0 => by rw [p2_zero, Nat.add_zero]; omega
  | b + 1 => by rw [← Nat.add_assoc, p2_succ, p2_add a b, p2_succ, ← Int.mul_assoc, ← Int.mul_assoc, Int.mul_comm 2 (p2 a)]

/-- Bytes: each in 0 .. 255. -/
def AllB (xs : List Int) : Prop := ∀ i, 0 ≤ xs.getD i 0 ∧ xs.getD i 0 < 256
/-- Bit i of a list of bytes. -/
def bitAt (xs : List Int) (i : Nat) : Int := xs.getD (i / 8) 0 / p2 (i % 8) % 2

theorem pre_getD (xs : List Int) (c i : Nat) : (pre xs c).getD i 0 = xs.getD i 0 := by
  unfold pre
  split
  · rw [List.getD_eq_getElem?_getD, List.getD_eq_getElem?_getD]
    rcases Nat.lt_trichotomy i xs.length with h | h | h
    · rw [List.getElem?_append_left h]
    · subst h
      rw [List.getElem?_append_right (Nat.le_refl _)]
      simp
    · rw [List.getElem?_append_right (by omega), List.getElem?_eq_none (by simp; omega), List.getElem?_eq_none (by omega)]
  · rfl
theorem bstep_getD {xs : List Int} {c : Nat} (b : Int) (h : Inv xs c) (i : Nat) : (bstep xs c b).getD i 0 = if i = c / 8 then xs.getD (c / 8) 0 + b * p2 (c % 8) else xs.getD i 0 := by
  have hl := pre_len h
  unfold bstep
  by_cases hi : i = c / 8
  · rw [if_pos hi, hi, List.getD_eq_getElem?_getD, List.getElem?_set_self (by omega)]
    show (pre xs c).getD (c / 8) 0 + _ = _
    rw [pre_getD]
  · rw [if_neg hi, List.getD_eq_getElem?_getD, List.getElem?_set_ne (by omega), ← List.getD_eq_getElem?_getD, pre_getD]
theorem last_lt {xs : List Int} {c : Nat} (h : Inv xs c) : 0 ≤ xs.getD (c / 8) 0 ∧ xs.getD (c / 8) 0 < p2 (c % 8) := by
  have := pre_last h
  rwa [pre_getD] at this
theorem allB_bstep {xs : List Int} {c : Nat} {b : Int} (h : Inv xs c) (ha : AllB xs) (h0 : 0 ≤ b) (h1 : b ≤ 1) : AllB (bstep xs c b) := by
  intro i
  rw [bstep_getD b h]
  split
  · have hl := last_lt h
    have hp := PutMath.p2_8 (r := c % 8) (by omega)
    have hm := PutMath.mul01 b (p2 (c % 8)) h0 h1 (p2_pos _)
    omega
  · exact ha i
theorem bitAt_old {xs : List Int} {c : Nat} (b : Int) (h : Inv xs c) (i : Nat) (hi : i < c) : bitAt (bstep xs c b) i = bitAt xs i := by
  unfold bitAt
  rw [bstep_getD b h]
  split
  · rename_i e
    have hq : i % 8 < c % 8 := by omega
    obtain ⟨d, hd⟩ : ∃ d, c % 8 = i % 8 + (d + 1) := ⟨c % 8 - i % 8 - 1, by omega⟩
    have hp := p2_pos (i % 8)
    have e2 : b * p2 (c % 8) = (b * p2 d * 2) * p2 (i % 8) := by
      rw [hd, p2_add, p2_succ]
      rw [Int.mul_comm (p2 (i % 8)), ← Int.mul_assoc, ← Int.mul_assoc, Int.mul_comm b 2, Int.mul_assoc 2 b, Int.mul_comm 2]
    rw [e2, e, Int.add_mul_ediv_right _ _ (by omega)]
    generalize xs.getD (c / 8) 0 / p2 (i % 8) = u
    generalize b * p2 d = v
    omega
  · rfl
theorem bitAt_new {xs : List Int} {c : Nat} {b : Int} (h : Inv xs c) (h0 : 0 ≤ b) (h1 : b ≤ 1) : bitAt (bstep xs c b) c = b := by
  unfold bitAt
  rw [bstep_getD b h, if_pos rfl]
  have hl := last_lt h
  have hp := p2_pos (c % 8)
  rw [Int.add_mul_ediv_right _ _ (by omega), Int.ediv_eq_zero_of_lt hl.1 hl.2]
  omega

section
variable {xs : List Int} {c : Nat} {f : Nat → Int}
theorem allB_puts (h : Inv xs c) (ha : AllB xs) (hf : ∀ k, 0 ≤ f k ∧ f k ≤ 1) : ∀ k, AllB (puts xs c f k)
  | 0 => ha
  | k + 1 => allB_bstep (inv_puts h hf k) (allB_puts h ha hf k) (hf k).1 (hf k).2
theorem puts_old (h : Inv xs c) (hf : ∀ k, 0 ≤ f k ∧ f k ≤ 1) (i : Nat) (hi : i < c) : ∀ k, bitAt (puts xs c f k) i = bitAt xs i
  | 0 => rfl
  | k + 1 => (bitAt_old (f k) (inv_puts h hf k) i (by omega)).trans (puts_old h hf i hi k)
theorem puts_new (h : Inv xs c) (hf : ∀ k, 0 ≤ f k ∧ f k ≤ 1) (i : Nat) : ∀ k, i < k → bitAt (puts xs c f k) (c + i) = f i
  | 0, hi => by omega
  | k + 1, hi => by
    by_cases e : i = k
    · subst e
      exact bitAt_new (inv_puts h hf i) (hf i).1 (hf i).2
    · exact (bitAt_old (f k) (inv_puts h hf k) (c + i) (by omega)).trans (puts_new h hf i k (by omega))
end

theorem byteAt_str {ys : List Int} (ha : AllB ys) (i : Nat) : ((byteAt (strOfNums ys) i : Nat) : Int) = ys.getD i 0 := by
  have hb := ha i
  unfold byteAt
  have e : (strOfNums ys).data[i]? = (ys[i]?).map fun n => UInt8.ofNat n.toNat := by simp [strOfNums]
  rw [e]
  rw [List.getD_eq_getElem?_getD] at hb ⊢
  cases h : ys[i]? with
  | none => simp
  | some y =>
    rw [h] at hb
    simp only [Option.map_some, Option.getD_some] at hb ⊢
    rw [UInt8.toNat_ofNat']
    omega
theorem bit_str {ys : List Int} (ha : AllB ys) (i : Nat) : bit (strOfNums ys) i = bitAt ys i := by
  unfold bit bitAt
  rw [byteAt_str ha]
theorem nums_back {ys : List Int} (ha : AllB ys) : ((strOfNums ys).data.toList.map fun b => (b.toNat : Int)) = ys := by
  apply List.ext_getElem?
  intro i
  have hb := ha i
  have e : (strOfNums ys).data.toList = ys.map fun n => UInt8.ofNat n.toNat := rfl
  rw [e, List.map_map, List.getElem?_map]
  rw [List.getD_eq_getElem?_getD] at hb
  cases h : ys[i]? with
  | none => rfl
  | some y =>
    rw [h] at hb
    simp only [Option.getD_some] at hb
    simp only [Option.map_some, Function.comp]
    rw [UInt8.toNat_ofNat']
    congr 1
    omega

theorem outB_of_inv {ys : List Int} {c : Nat} (h : Inv ys c) (ha : AllB ys) (hc : c ≤ 96000) : outB (strOfNums ys) c = true := by
  have hs : (strOfNums ys).size = (c + 7) / 8 := (strOfNums_size ys).trans h.1
  have hf : Fits (strOfNums ys) c := by
    unfold Fits
    rw [hs]
    omega
  by_cases h8 : (c : Int) % 8 = 0
  · exact outB_fit0 _ _ hf h8
  · rw [outB_fit1 _ _ hf h8]
    unfold lastOk
    have e : last (strOfNums ys) = byteAt (strOfNums ys) (c / 8) := by
      unfold last byteAt
      rw [hs, show (c + 7) / 8 - 1 = c / 8 by omega]
    rw [e, byteAt_str ha, show ((c : Int) % 8).toNat = c % 8 by omega]
    exact decide_eq_true (last_lt h).2

theorem mod_split (x q : Int) (hq : 1 ≤ q) : x % (2 * q) = x % q + x / q % 2 * q := by
  have h1 := Int.emod_nonneg x (show q ≠ 0 by omega)
  have h2 := Int.emod_lt_of_pos x (show 0 < q by omega)
  have h3 := Int.mul_ediv_add_emod x q
  have hm := PutMath.mul01 (x / q % 2) q (by omega) (by omega) hq
  have e : x = (x % q + x / q % 2 * q) + (2 * q) * (x / q / 2) := by
    have h4 : x / q = 2 * (x / q / 2) + x / q % 2 := by omega
    have h5 : q * (x / q) = 2 * q * (x / q / 2) + x / q % 2 * q := by
      conv => lhs; rw [h4]
      rw [Int.mul_add, ← Int.mul_assoc, Int.mul_comm q 2, Int.mul_comm q]
    omega
  conv => lhs; rw [e]
  rw [Int.add_mul_emod_self_left]
  exact Int.emod_eq_of_lt (by omega) (by omega)

/-- A number is told by its bits. -/
theorem num_of (s : ByteArray) (a : Nat) (x : Int) : ∀ k, (∀ i, i < k → bit s (a + i) = bitOf x i) → num s a k = x % p2 k
  | 0, _ => by rw [p2_zero]; show (0 : Int) = _; omega
  | k + 1, h => by
    show num s a k + bit s (a + k) * p2 k = _
    rw [num_of s a x k (fun i hi => h i (by omega)), h k (by omega), p2_succ, mod_split x (p2 k) (p2_pos k)]
    rfl

/-- What stands there behind j numbers: the bytes; how many bits. -/
def seqC (n : Nat → Nat) : Nat → Nat
  | 0 => 0
  | j + 1 => seqC n j + n j
def seqY (v : Nat → Int) (n : Nat → Nat) : Nat → List Int
  | 0 => []
  | j + 1 => puts (seqY v n j) (seqC n j) (fun i => bitOf (v j) i) (n j)
theorem inv_nil : Inv [] 0 := ⟨rfl, fun h => by omega⟩
theorem allB_nil : AllB [] := fun i => by simp
section
variable {v : Nat → Int} {n : Nat → Nat}
theorem seq_inv : ∀ j, Inv (seqY v n j) (seqC n j)
  | 0 => inv_nil
  | j + 1 => inv_puts (seq_inv j) (fun _ => bitOf_01 _ _) _
theorem seq_allB : ∀ j, AllB (seqY v n j)
  | 0 => allB_nil
  | j + 1 => allB_puts (seq_inv j) (seq_allB j) (fun _ => bitOf_01 _ _) _
theorem seqC_le (hn : ∀ j, n j ≤ 24) : ∀ j, seqC n j ≤ 24 * j
  | 0 => Nat.le_refl _
  | j + 1 => by have := seqC_le hn j; have := hn j; show seqC n j + n j ≤ _; omega
theorem seqC_mono (j : Nat) : ∀ d, seqC n j ≤ seqC n (j + d)
  | 0 => Nat.le_refl _
  | d + 1 => Nat.le_trans (seqC_mono j d) (Nat.le_add_right _ _)
theorem seq_old (j : Nat) (i : Nat) (hi : i < seqC n j) : ∀ d, bitAt (seqY v n (j + d)) i = bitAt (seqY v n j) i
  | 0 => rfl
  | d + 1 => (puts_old (seq_inv (j + d)) (fun _ => bitOf_01 _ _) i (Nat.lt_of_lt_of_le hi (seqC_mono j d)) _).trans (seq_old j i hi d)
theorem seq_bit (j L i : Nat) (hj : j < L) (hi : i < n j) : bitAt (seqY v n L) (seqC n j + i) = bitOf (v j) i := by
  obtain ⟨d, rfl⟩ : ∃ d, L = j + 1 + d := ⟨L - (j + 1), by omega⟩
  rw [seq_old (j + 1) (seqC n j + i) (by show _ < seqC n j + n j; omega) d]
  exact puts_new (seq_inv j) (fun _ => bitOf_01 _ _) i (n j) hi
theorem seq_num (j L : Nat) (hj : j < L) (h0 : 0 ≤ v j) (h1 : v j < p2 (n j)) : num (strOfNums (seqY v n L)) (seqC n j) (n j) = v j := by
  rw [num_of _ _ (v j) (n j) (fun i hi => by rw [bit_str (seq_allB L), seq_bit j L i hj hi])]
  exact Int.emod_eq_of_lt h0 h1
end

/-- The highest bit first. -/
theorem code_bit (x : Int) (n i : Nat) (hi : i < n) : bit (strOfNums (puts [] 0 (fun j => bitOf x (n - 1 - j)) n)) i = bitOf x (n - 1 - i) := by
  rw [bit_str (allB_puts inv_nil allB_nil (fun _ => bitOf_01 _ _) _)]
  have := puts_new (f := fun j => bitOf x (n - 1 - j)) inv_nil (fun _ => bitOf_01 _ _) i n hi
  rwa [Nat.zero_add] at this
theorem code_step (x : Int) (n k : Nat) (hk : k < n) : 2 * (x / p2 (n - k)) + bitOf x (n - 1 - k) = x / p2 (n - (k + 1)) := by
  have e : n - k = n - (k + 1) + 1 := by omega
  have e2 : n - 1 - k = n - (k + 1) := by omega
  unfold bitOf
  rw [e, e2, p2_succ, Int.mul_comm 2 (p2 _), ← Int.ediv_ediv_of_nonneg (by have := p2_pos (n - (k + 1)); omega)]
  generalize x / p2 (n - (k + 1)) = u
  omega
theorem num_one (s : ByteArray) (i : Nat) : num s i 1 = bit s i := by
  show (0 : Int) + bit s (i + 0) * p2 0 = _
  rw [p2_zero, Nat.add_zero]
  omega

end BitsMath
end Go.Proofs.Ytkpbfmdnjnohlaa
