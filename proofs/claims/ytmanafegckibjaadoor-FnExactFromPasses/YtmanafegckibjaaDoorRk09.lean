/-
  Plain facts on the bits of a text, the lowest of each byte first; nothing here speaks of the program.
  Bits that are put are taken again, in the same order; nothing here speaks of the program.
  Samples in bytes, and back, in plain numbers. Nothing here speaks of the program.
-/
import Derived.Test.YtmanafegckibjaaDoorRk08
import Derived.WalkKit
import Derived.Laws.BitsAllLaws
import Derived.Laws.BytesArg
namespace Go.Proofs.YtmanafegckibjaaDoor
namespace TakeMath
open OutMath

def byteAt (s : ByteArray) (i : Nat) : Nat := (s.data[i]?.getD 0).toNat
theorem byteAt_lt (s : ByteArray) (i : Nat) : byteAt s i < 256 := UInt8.toNat_lt _
theorem byteAt_get (s : ByteArray) (i : Nat) (h : i < s.size) : (s[i]'h).toNat = byteAt s i := by
  unfold byteAt
  have h' : i < s.data.size := h
  rw [Array.getElem?_eq_getElem h']
  rfl

/-- Bit i of a text. -/
def bit (s : ByteArray) (i : Nat) : Int := (byteAt s (i / 8) : Int) / p2 (i % 8) % 2
theorem bit_01 (s : ByteArray) (i : Nat) : 0 ≤ bit s i ∧ bit s i ≤ 1 := by unfold bit; omega

/-- The number whose bits, the lowest first, are the k from bit a on. -/
def num (s : ByteArray) (a : Nat) : Nat → Int
  | 0 => 0
  | k + 1 => num s a k + bit s (a + k) * p2 k
theorem mul01 (b q : Int) (h0 : 0 ≤ b) (h1 : b ≤ 1) (hq : 1 ≤ q) : 0 ≤ b * q ∧ b * q ≤ q := by
  have : b = 0 ∨ b = 1 := by omega
  rcases this with rfl | rfl <;> omega
theorem num_bd (s : ByteArray) (a : Nat) : ∀ k, 0 ≤ num s a k ∧ num s a k < p2 k
  | 0 => by simp [num, p2]
  | k + 1 => by
    have h := num_bd s a k
    have hb := bit_01 s (a + k)
    have hm := mul01 _ _ hb.1 hb.2 (p2_pos k)
    unfold num
    rw [p2_succ]
    omega

theorem p2_24 {n : Nat} (h : n ≤ 24) : p2 n ≤ 16777216 := by
  have h1 := p2_le h
  have h2 : p2 24 = 16777216 := by decide +kernel
  omega

theorem div_bd (x : Nat) (q : Int) (hq : 1 ≤ q) : 0 ≤ (x : Int) / q ∧ (x : Int) / q ≤ x := ⟨Int.ediv_nonneg (by omega) (by omega), Int.ediv_le_self _ (by omega)⟩
theorem bit_walk (s : ByteArray) (i : Nat) : (Go.RowKit.wrap64 ((byteAt s (i / 8) : Int) / p2 (i % 8))).tmod 2 = bit s i := by
  have h := div_bd (byteAt s (i / 8)) (p2 (i % 8)) (p2_pos _)
  have hb := byteAt_lt s (i / 8)
  have e : Go.RowKit.wrap64 ((byteAt s (i / 8) : Int) / p2 (i % 8)) = (byteAt s (i / 8) : Int) / p2 (i % 8) := by
    unfold Go.RowKit.wrap64; omega
  rw [e, Int.tmod_eq_emod_of_nonneg h.1]
  rfl

theorem i64_and_nat (a b : Nat) (ha : a < 9223372036854775808) (hb : b < 9223372036854775808) : bits .and .i64 (a : Int) (b : Int) = ((a &&& b : Nat) : Int) := by
  have h1 : (BitVec.ofInt 64 (a : Int)).toNat = a := by
    rw [BitVec.ofInt_natCast, BitVec.toNat_ofNat]; exact Nat.mod_eq_of_lt (by omega)
  have h2 : (BitVec.ofInt 64 (b : Int)).toNat = b := by
    rw [BitVec.ofInt_natCast, BitVec.toNat_ofNat]; exact Nat.mod_eq_of_lt (by omega)
  have hx : a &&& b < 2 ^ 63 := Nat.and_lt_two_pow _ (by omega)
  show IntKind.i64.wrap ((BitVec.ofInt 64 (a : Int) &&& BitVec.ofInt 64 (b : Int)).toNat : Int) = _
  rw [BitVec.toNat_and, h1, h2, IntKind.wrap_i64]
  omega
theorem i64_or_nat (a b : Nat) (ha : a < 9223372036854775808) (hb : b < 9223372036854775808) : bits .or .i64 (a : Int) (b : Int) = ((a ||| b : Nat) : Int) := by
  have h1 : (BitVec.ofInt 64 (a : Int)).toNat = a := by
    rw [BitVec.ofInt_natCast, BitVec.toNat_ofNat]; exact Nat.mod_eq_of_lt (by omega)
  have h2 : (BitVec.ofInt 64 (b : Int)).toNat = b := by
    rw [BitVec.ofInt_natCast, BitVec.toNat_ofNat]; exact Nat.mod_eq_of_lt (by omega)
  have hx : a ||| b < 2 ^ 63 := Nat.or_lt_two_pow (by omega) (by omega)
  show IntKind.i64.wrap ((BitVec.ofInt 64 (a : Int) ||| BitVec.ofInt 64 (b : Int)).toNat : Int) = _
  rw [BitVec.toNat_or, h1, h2, IntKind.wrap_i64]
  omega
theorem and1 (x : Int) (h0 : 0 ≤ x) (h1 : x < 9223372036854775808) : bits .and .i64 x 1 = x % 2 := by
  obtain ⟨n, rfl⟩ := Int.eq_ofNat_of_zero_le h0
  have := i64_and_nat n 1 (by omega) (by omega)
  rw [nat_mask1] at this
  rw [show ((1 : Nat) : Int) = 1 from rfl] at this
  rw [this]
  omega
theorem bit_and (s : ByteArray) (i : Nat) : bits .and .i64 (Go.RowKit.wrap64 ((byteAt s (i / 8) : Int) / 2 ^ (i % 8))) 1 = bit s i := by
  have h := div_bd (byteAt s (i / 8)) (p2 (i % 8)) (p2_pos _)
  have hb := byteAt_lt s (i / 8)
  have e : Go.RowKit.wrap64 ((byteAt s (i / 8) : Int) / 2 ^ (i % 8)) = (byteAt s (i / 8) : Int) / p2 (i % 8) := by
    show Go.RowKit.wrap64 ((byteAt s (i / 8) : Int) / p2 (i % 8)) = _
    unfold Go.RowKit.wrap64; omega
  rw [e, and1 _ h.1 (by omega)]
  rfl

/-- Below two to the k a number, and a bit at k: 'or' is plus. -/
theorem or_bit (x b : Int) (k : Nat) (hk : k ≤ 24) (h0 : 0 ≤ x) (h1 : x < p2 k) (b0 : 0 ≤ b) (b1 : b ≤ 1) : bits .or .i64 x (b * p2 k) = x + b * p2 k := by
  have hm := mul01 b (p2 k) b0 b1 (p2_pos k)
  have hp := p2_24 hk
  obtain ⟨n, rfl⟩ := Int.eq_ofNat_of_zero_le h0
  obtain ⟨m, rfl⟩ := Int.eq_ofNat_of_zero_le b0
  rw [p2_nat] at h1 hm hp ⊢
  rw [show ((m : Int) * ((2 ^ k : Nat) : Int)) = ((m * 2 ^ k : Nat) : Int) from (Int.natCast_mul _ _).symm] at hm ⊢
  rw [i64_or_nat _ _ (by omega) (by omega), Nat.or_comm, nat_join k (m * 2 ^ k) n (by simp) (by omega)]
  omega

theorem or_bitW (x b : Int) (k : Nat) (hk : k ≤ 24) (h0 : 0 ≤ x) (h1 : x < p2 k) (b0 : 0 ≤ b) (b1 : b ≤ 1) : bits .or .i64 x (Go.RowKit.wrap64 (b * 2 ^ k)) = x + b * p2 k := by
  have hm := mul01 b (p2 k) b0 b1 (p2_pos k)
  have hp := p2_24 hk
  have e : Go.RowKit.wrap64 (b * 2 ^ k) = b * p2 k := by
    show Go.RowKit.wrap64 (b * p2 k) = _
    unfold Go.RowKit.wrap64; omega
  rw [e]
  exact or_bit x b k hk h0 h1 b0 b1

end TakeMath
end Go.Proofs.YtmanafegckibjaaDoor

namespace Go.Proofs.YtmanafegckibjaaDoor
namespace BitsMath
open OutMath PutMath TakeMath

theorem p2_add (a : Nat) : ∀ b, p2 (a + b) = p2 a * p2 b
  | 0 => by rw [p2_zero, Nat.add_zero]; omega
  | b + 1 => by rw [← Nat.add_assoc, p2_succ, p2_add a b, p2_succ, ← Int.mul_assoc, ← Int.mul_assoc, Int.mul_comm 2 (p2 a)]

/-- Bytes: each in 0 .. 255. -/
def AllB (xs : List Int) : Prop := ∀ i, 0 ≤ xs.getD i 0 ∧ xs.getD i 0 < 256
/-- Bit i of a list of bytes. -/
def bitAt (xs : List Int) (i : Nat) : Int := xs.getD (i / 8) 0 / p2 (i % 8) % 2

theorem pre_getD (xs : List Int) (c i : Nat) : (pre xs c).getD i 0 = xs.getD i 0 := by
  unfold pre
  split
  · rw [List.getD_eq_getElem?_getD, List.getD_eq_getElem?_getD]
    rcases Nat.lt_trichotomy i xs.length with h | h | h
    · rw [List.getElem?_append_left h]
    · subst h
      rw [List.getElem?_append_right (Nat.le_refl _)]
      simp
    · rw [List.getElem?_append_right (by omega), List.getElem?_eq_none (by simp; omega), List.getElem?_eq_none (by omega)]
  · rfl
theorem bstep_getD {xs : List Int} {c : Nat} (b : Int) (h : Inv xs c) (i : Nat) : (bstep xs c b).getD i 0 = if i = c / 8 then xs.getD (c / 8) 0 + b * p2 (c % 8) else xs.getD i 0 := by
  have hl := pre_len h
  unfold bstep
  by_cases hi : i = c / 8
  · rw [if_pos hi, hi, List.getD_eq_getElem?_getD, List.getElem?_set_self (by omega)]
    show (pre xs c).getD (c / 8) 0 + _ = _
    rw [pre_getD]
  · rw [if_neg hi, List.getD_eq_getElem?_getD, List.getElem?_set_ne (by omega), ← List.getD_eq_getElem?_getD, pre_getD]
theorem last_lt {xs : List Int} {c : Nat} (h : Inv xs c) : 0 ≤ xs.getD (c / 8) 0 ∧ xs.getD (c / 8) 0 < p2 (c % 8) := by
  have := pre_last h
  rwa [pre_getD] at this
theorem allB_bstep {xs : List Int} {c : Nat} {b : Int} (h : Inv xs c) (ha : AllB xs) (h0 : 0 ≤ b) (h1 : b ≤ 1) : AllB (bstep xs c b) := by
  intro i
  rw [bstep_getD b h]
  split
  · have hl := last_lt h
    have hp := PutMath.p2_8 (r := c % 8) (by omega)
    have hm := PutMath.mul01 b (p2 (c % 8)) h0 h1 (p2_pos _)
    omega
  · exact ha i
theorem bitAt_old {xs : List Int} {c : Nat} (b : Int) (h : Inv xs c) (i : Nat) (hi : i < c) : bitAt (bstep xs c b) i = bitAt xs i := by
  unfold bitAt
  rw [bstep_getD b h]
  split
  · rename_i e
    have hq : i % 8 < c % 8 := by omega
    obtain ⟨d, hd⟩ : ∃ d, c % 8 = i % 8 + (d + 1) := ⟨c % 8 - i % 8 - 1, by omega⟩
    have hp := p2_pos (i % 8)
    have e2 : b * p2 (c % 8) = (b * p2 d * 2) * p2 (i % 8) := by
      rw [hd, p2_add, p2_succ]
      rw [Int.mul_comm (p2 (i % 8)), ← Int.mul_assoc, ← Int.mul_assoc, Int.mul_comm b 2, Int.mul_assoc 2 b, Int.mul_comm 2]
    rw [e2, e, Int.add_mul_ediv_right _ _ (by omega)]
    generalize xs.getD (c / 8) 0 / p2 (i % 8) = u
    generalize b * p2 d = v
    omega
  · rfl
theorem bitAt_new {xs : List Int} {c : Nat} {b : Int} (h : Inv xs c) (h0 : 0 ≤ b) (h1 : b ≤ 1) : bitAt (bstep xs c b) c = b := by
  unfold bitAt
  rw [bstep_getD b h, if_pos rfl]
  have hl := last_lt h
  have hp := p2_pos (c % 8)
  rw [Int.add_mul_ediv_right _ _ (by omega), Int.ediv_eq_zero_of_lt hl.1 hl.2]
  omega

section
variable {xs : List Int} {c : Nat} {f : Nat → Int}
theorem allB_puts (h : Inv xs c) (ha : AllB xs) (hf : ∀ k, 0 ≤ f k ∧ f k ≤ 1) : ∀ k, AllB (puts xs c f k)
  | 0 => ha
  | k + 1 => allB_bstep (inv_puts h hf k) (allB_puts h ha hf k) (hf k).1 (hf k).2
theorem puts_old (h : Inv xs c) (hf : ∀ k, 0 ≤ f k ∧ f k ≤ 1) (i : Nat) (hi : i < c) : ∀ k, bitAt (puts xs c f k) i = bitAt xs i
  | 0 => rfl
  | k + 1 => (bitAt_old (f k) (inv_puts h hf k) i (by omega)).trans (puts_old h hf i hi k)
theorem puts_new (h : Inv xs c) (hf : ∀ k, 0 ≤ f k ∧ f k ≤ 1) (i : Nat) : ∀ k, i < k → bitAt (puts xs c f k) (c + i) = f i
  | 0, hi => by omega
  | k + 1, hi => by
    by_cases e : i = k
    · subst e
      exact bitAt_new (inv_puts h hf i) (hf i).1 (hf i).2
    · exact (bitAt_old (f k) (inv_puts h hf k) (c + i) (by omega)).trans (puts_new h hf i k (by omega))
end

theorem byteAt_str {ys : List Int} (ha : AllB ys) (i : Nat) : ((byteAt (strOfNums ys) i : Nat) : Int) = ys.getD i 0 := by
  have hb := ha i
  unfold byteAt
  have e : (strOfNums ys).data[i]? = (ys[i]?).map fun n => UInt8.ofNat n.toNat := by simp [strOfNums]
  rw [e]
  rw [List.getD_eq_getElem?_getD] at hb ⊢
  cases h : ys[i]? with
  | none => simp
  | some y =>
    rw [h] at hb
    simp only [Option.map_some, Option.getD_some] at hb ⊢
    rw [UInt8.toNat_ofNat']
    omega
theorem bit_str {ys : List Int} (ha : AllB ys) (i : Nat) : bit (strOfNums ys) i = bitAt ys i := by
  unfold bit bitAt
  rw [byteAt_str ha]
theorem nums_back {ys : List Int} (ha : AllB ys) : ((strOfNums ys).data.toList.map fun b => (b.toNat : Int)) = ys := by
  apply List.ext_getElem?
  intro i
  have hb := ha i
  have e : (strOfNums ys).data.toList = ys.map fun n => UInt8.ofNat n.toNat := rfl
  rw [e, List.map_map, List.getElem?_map]
  rw [List.getD_eq_getElem?_getD] at hb
  cases h : ys[i]? with
  | none => rfl
  | some y =>
    rw [h] at hb
    simp only [Option.getD_some] at hb
    simp only [Option.map_some, Function.comp]
    rw [UInt8.toNat_ofNat']
    congr 1
    omega

theorem outB_of_inv {ys : List Int} {c : Nat} (h : Inv ys c) (ha : AllB ys) (hc : c ≤ 96000) : outB (strOfNums ys) c = true := by
  have hs : (strOfNums ys).size = (c + 7) / 8 := (strOfNums_size ys).trans h.1
  have hf : Fits (strOfNums ys) c := by
    unfold Fits
    rw [hs]
    omega
  by_cases h8 : (c : Int) % 8 = 0
  · exact outB_fit0 _ _ hf h8
  · rw [outB_fit1 _ _ hf h8]
    unfold lastOk
    have e : last (strOfNums ys) = byteAt (strOfNums ys) (c / 8) := by
      unfold last byteAt
      rw [hs, show (c + 7) / 8 - 1 = c / 8 by omega]
    rw [e, byteAt_str ha, show ((c : Int) % 8).toNat = c % 8 by omega]
    exact decide_eq_true (last_lt h).2

theorem mod_split (x q : Int) (hq : 1 ≤ q) : x % (2 * q) = x % q + x / q % 2 * q := by
  have h1 := Int.emod_nonneg x (show q ≠ 0 by omega)
  have h2 := Int.emod_lt_of_pos x (show 0 < q by omega)
  have h3 := Int.mul_ediv_add_emod x q
  have hm := PutMath.mul01 (x / q % 2) q (by omega) (by omega) hq
  have e : x = (x % q + x / q % 2 * q) + (2 * q) * (x / q / 2) := by
    have h4 : x / q = 2 * (x / q / 2) + x / q % 2 := by omega
    have h5 : q * (x / q) = 2 * q * (x / q / 2) + x / q % 2 * q := by
      conv => lhs; rw [h4]
      rw [Int.mul_add, ← Int.mul_assoc, Int.mul_comm q 2, Int.mul_comm q]
    omega
  conv => lhs; rw [e]
  rw [Int.add_mul_emod_self_left]
  exact Int.emod_eq_of_lt (by omega) (by omega)

/-- A number is told by its bits. -/
theorem num_of (s : ByteArray) (a : Nat) (x : Int) : ∀ k, (∀ i, i < k → bit s (a + i) = bitOf x i) → num s a k = x % p2 k
  | 0, _ => by rw [p2_zero]; show (0 : Int) = _; omega
  | k + 1, h => by
    show num s a k + bit s (a + k) * p2 k = _
    rw [num_of s a x k (fun i hi => h i (by omega)), h k (by omega), p2_succ, mod_split x (p2 k) (p2_pos k)]
    rfl

/-- What stands there behind j numbers: the bytes; how many bits. -/
def seqC (n : Nat → Nat) : Nat → Nat
  | 0 => 0
  | j + 1 => seqC n j + n j
def seqY (v : Nat → Int) (n : Nat → Nat) : Nat → List Int
  | 0 => []
  | j + 1 => puts (seqY v n j) (seqC n j) (fun i => bitOf (v j) i) (n j)
theorem inv_nil : Inv [] 0 := ⟨rfl, fun h => by omega⟩
theorem allB_nil : AllB [] := fun i => by simp
section
variable {v : Nat → Int} {n : Nat → Nat}
theorem seq_inv : ∀ j, Inv (seqY v n j) (seqC n j)
  | 0 => inv_nil
  | j + 1 => inv_puts (seq_inv j) (fun _ => bitOf_01 _ _) _
theorem seq_allB : ∀ j, AllB (seqY v n j)
  | 0 => allB_nil
  | j + 1 => allB_puts (seq_inv j) (seq_allB j) (fun _ => bitOf_01 _ _) _
theorem seqC_le (hn : ∀ j, n j ≤ 24) : ∀ j, seqC n j ≤ 24 * j
  | 0 => Nat.le_refl _
  | j + 1 => by have := seqC_le hn j; have := hn j; show seqC n j + n j ≤ _; omega
theorem seqC_mono (j : Nat) : ∀ d, seqC n j ≤ seqC n (j + d)
  | 0 => Nat.le_refl _
  | d + 1 => Nat.le_trans (seqC_mono j d) (Nat.le_add_right _ _)
theorem seq_old (j : Nat) (i : Nat) (hi : i < seqC n j) : ∀ d, bitAt (seqY v n (j + d)) i = bitAt (seqY v n j) i
  | 0 => rfl
  | d + 1 => (puts_old (seq_inv (j + d)) (fun _ => bitOf_01 _ _) i (Nat.lt_of_lt_of_le hi (seqC_mono j d)) _).trans (seq_old j i hi d)
theorem seq_bit (j L i : Nat) (hj : j < L) (hi : i < n j) : bitAt (seqY v n L) (seqC n j + i) = bitOf (v j) i := by
  obtain ⟨d, rfl⟩ : ∃ d, L = j + 1 + d := ⟨L - (j + 1), by omega⟩
  rw [seq_old (j + 1) (seqC n j + i) (by show _ < seqC n j + n j; omega) d]
  exact puts_new (seq_inv j) (fun _ => bitOf_01 _ _) i (n j) hi
theorem seq_num (j L : Nat) (hj : j < L) (h0 : 0 ≤ v j) (h1 : v j < p2 (n j)) : num (strOfNums (seqY v n L)) (seqC n j) (n j) = v j := by
  rw [num_of _ _ (v j) (n j) (fun i hi => by rw [bit_str (seq_allB L), seq_bit j L i hj hi])]
  exact Int.emod_eq_of_lt h0 h1
end

/-- The highest bit first. -/
theorem code_bit (x : Int) (n i : Nat) (hi : i < n) : bit (strOfNums (puts [] 0 (fun j => bitOf x (n - 1 - j)) n)) i = bitOf x (n - 1 - i) := by
  rw [bit_str (allB_puts inv_nil allB_nil (fun _ => bitOf_01 _ _) _)]
  have := puts_new (f := fun j => bitOf x (n - 1 - j)) inv_nil (fun _ => bitOf_01 _ _) i n hi
  rwa [Nat.zero_add] at this
theorem code_step (x : Int) (n k : Nat) (hk : k < n) : 2 * (x / p2 (n - k)) + bitOf x (n - 1 - k) = x / p2 (n - (k + 1)) := by
  have e : n - k = n - (k + 1) + 1 := by omega
  have e2 : n - 1 - k = n - (k + 1) := by omega
  unfold bitOf
  rw [e, e2, p2_succ, Int.mul_comm 2 (p2 _), ← Int.ediv_ediv_of_nonneg (by have := p2_pos (n - (k + 1)); omega)]
  generalize x / p2 (n - (k + 1)) = u
  omega
theorem num_one (s : ByteArray) (i : Nat) : num s i 1 = bit s i := by
  show (0 : Int) + bit s (i + 0) * p2 0 = _
  rw [p2_zero, Nat.add_zero]
  omega

end BitsMath
end Go.Proofs.YtmanafegckibjaaDoor

namespace Go.Proofs.YtmanafegckibjaaDoor
namespace RastMath
open OutMath PutMath BitsMath

/-- A number by its bits, the highest first. -/
def hb (g : Nat → Int) : Nat → Int
  | 0 => 0
  | k + 1 => 2 * hb g k + g k
theorem hb_congr {g h : Nat → Int} : ∀ m, (∀ k, k < m → g k = h k) → hb g m = hb h m
  | 0, _ => rfl
  | m + 1, e => by
    show 2 * hb g m + g m = 2 * hb h m + h m
    rw [hb_congr m fun k hk => e k (by omega), e m (by omega)]
theorem hb_range {g : Nat → Int} (h : ∀ k, 0 ≤ g k ∧ g k ≤ 1) : ∀ m, 0 ≤ hb g m ∧ hb g m < p2 m
  | 0 => by rw [p2_zero]; exact ⟨Int.le_refl _, by show (0 : Int) < 1; omega⟩
  | m + 1 => by
    have h1 := hb_range h m
    have h2 := h m
    rw [p2_succ]
    show 0 ≤ 2 * hb g m + g m ∧ 2 * hb g m + g m < 2 * p2 m
    omega
/-- Each bit is told by it. -/
theorem hb_bit {g : Nat → Int} (h : ∀ k, 0 ≤ g k ∧ g k ≤ 1) : ∀ m k, k < m → bitOf (hb g m) (m - 1 - k) = g k
  | 0, _, hk => by omega
  | m + 1, k, hk => by
    have h2 := h m
    by_cases e : k = m
    · subst e
      show (2 * hb g k + g k) / p2 (k + 1 - 1 - k) % 2 = g k
      rw [show k + 1 - 1 - k = 0 by omega, p2_zero]
      omega
    · have ih := hb_bit h m k (by omega)
      have hp := p2_pos (m - 1 - k)
      show (2 * hb g m + g m) / p2 (m + 1 - 1 - k) % 2 = g k
      rw [show m + 1 - 1 - k = (m - 1 - k) + 1 by omega, p2_succ, ← Int.ediv_ediv_of_nonneg (by omega), show (2 * hb g m + g m) / 2 = hb g m by omega]
      exact ih
/-- A number is told by its bits. -/
theorem hb_num (x : Int) (d : Nat) (h0 : 0 ≤ x) (h1 : x < p2 d) : ∀ j, j ≤ d → hb (fun k => bitOf x (d - 1 - k)) j = x / p2 (d - j)
  | 0, _ => by
    show (0 : Int) = _
    rw [Nat.sub_zero]
    exact (Int.ediv_eq_zero_of_lt h0 h1).symm
  | j + 1, hj => by
    show 2 * hb _ j + bitOf x (d - 1 - j) = _
    rw [hb_num x d h0 h1 j (by omega)]
    exact code_step x d j (by omega)
theorem bitOf_range (x : Int) (i : Nat) : 0 ≤ bitOf x i ∧ bitOf x i ≤ 1 := by
  unfold bitOf
  omega
/-- The bits of samples, one behind the other; behind them zeros. -/
def rowBit (f : Nat → Int) (n d j : Nat) : Int := if j < n * d then bitOf (f (j / d)) (d - 1 - j % d) else 0
theorem rowBit_range (f : Nat → Int) (n d j : Nat) : 0 ≤ rowBit f n d j ∧ rowBit f n d j ≤ 1 := by
  unfold rowBit
  split
  · exact bitOf_range _ _
  · omega
/-- A row's byte. -/
def packB (f : Nat → Int) (n d i : Nat) : Int := hb (fun k => rowBit f n d (8 * i + k)) 8
theorem packB_range (f : Nat → Int) (n d i : Nat) : 0 ≤ packB f n d i ∧ packB f n d i < 256 := hb_range (fun k => rowBit_range f n d (8 * i + k)) 8
/-- A sample, out of a row's bytes. -/
def unpackS (b : Nat → Int) (d i : Nat) : Int := hb (fun k => bitOf (b ((i * d + k) / 8)) (7 - (i * d + k) % 8)) d
/-- Samples come back from their bytes. -/
theorem unpack_pack {f : Nat → Int} {n d i : Nat} (hi : i < n) (h0 : 0 ≤ f i) (h1 : f i < p2 d) : unpackS (packB f n d) d i = f i := by
  have e : unpackS (packB f n d) d i = hb (fun k => bitOf (f i) (d - 1 - k)) d := by
    refine hb_congr d fun k hk => ?_
    have hb := hb_bit (fun q => rowBit_range f n d (8 * ((i * d + k) / 8) + q)) 8 ((i * d + k) % 8) (by omega)
    show bitOf (packB f n d ((i * d + k) / 8)) (7 - (i * d + k) % 8) = _
    unfold packB
    rw [show 7 - (i * d + k) % 8 = 8 - 1 - (i * d + k) % 8 by omega, hb, show 8 * ((i * d + k) / 8) + (i * d + k) % 8 = i * d + k by omega]
    have hlt : i * d + k < n * d := by
      have : (i + 1) * d ≤ n * d := Nat.mul_le_mul_right d hi
      rw [Nat.add_mul] at this
      omega
    have hd : 0 < d := by omega
    unfold rowBit
    rw [if_pos hlt, show (i * d + k) / d = i by rw [Nat.mul_comm, Nat.mul_add_div hd, Nat.div_eq_of_lt hk]; omega, show (i * d + k) % d = k by rw [Nat.mul_comm, Nat.mul_add_mod, Nat.mod_eq_of_lt hk]]
  rw [e, hb_num (f i) d h0 h1 d (Nat.le_refl _), Nat.sub_self, p2_zero]
  omega
end RastMath
end Go.Proofs.YtmanafegckibjaaDoor
