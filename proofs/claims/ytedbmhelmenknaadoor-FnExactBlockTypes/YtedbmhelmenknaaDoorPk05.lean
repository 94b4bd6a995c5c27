/-
  Plain facts on numbers for bits that are put; nothing here speaks of the program.
  Plain facts on prefix codes that are told by their lengths; nothing here speaks of the program.
  Plain facts on the bits of a text, the lowest of each byte first; nothing here speaks of the program.
-/
import Derived.WalkKit
import Derived.Laws.BitsAllLaws
namespace Go.Proofs.YtedbmhelmenknaaDoor
namespace OutMath

/-- Two to the power n, behind a name. -/
def p2 (n : Nat) : Int := 2 ^ n
theorem p2_zero : p2 0 = 1 := by simp [p2]
theorem p2_succ (n : Nat) : p2 (n + 1) = 2 * p2 n := by unfold p2; rw [Int.pow_succ]; omega
theorem p2_pos : ∀ n, 1 ≤ p2 n
  | 0 => by simp [p2]
  | n + 1 => by have := p2_pos n; rw [p2_succ]; omega
theorem p2_mono (n : Nat) : ∀ m, p2 n ≤ p2 (n + m)
  | 0 => by simp
  | m + 1 => by have := p2_mono n m; have h := p2_pos (n + m); rw [← Nat.add_assoc, p2_succ]; omega
theorem p2_le {n m : Nat} (h : n ≤ m) : p2 n ≤ p2 m := by
  obtain ⟨k, rfl⟩ := Nat.exists_eq_add_of_le h
  exact p2_mono n k
theorem p2_61 {n : Nat} (h : n ≤ 61) : p2 n ≤ 2305843009213693952 := by
  have h1 := p2_le h
  have h2 : p2 61 = 2305843009213693952 := by decide +kernel
  omega
theorem p2_nat (n : Nat) : p2 n = ((2 ^ n : Nat) : Int) := by unfold p2; simp

/-- The last byte, 0 of an empty text. -/
def last (s : ByteArray) : Nat := (s.data[s.size - 1]?.getD 0).toNat
theorem last_at (s : ByteArray) (h : s.size - 1 < s.size) : (s[s.size - 1]'h).toNat = last s := by
  unfold last
  have h' : s.size - 1 < s.data.size := h
  rw [Array.getElem?_eq_getElem h']
  rfl
theorem last_lt (s : ByteArray) : last s < 256 := UInt8.toNat_lt _

/-- The number of bytes fits the number of bits. -/
def Fits (s : ByteArray) (c : Int) : Prop := s.size ≤ 12000 ∧ 0 ≤ c ∧ c ≤ 8 * s.size ∧ (c + 7) / 8 = s.size

/-- The bits of the last byte that were not put are 0. -/
def lastOk (s : ByteArray) (c : Int) : Bool := decide (((last s : Nat) : Int) < p2 (c % 8).toNat)

theorem lastOk_div (s : ByteArray) (c : Int) : lastOk s c = (((last s : Nat) : Int) / 2 ^ (c % 8).toNat == 0) := by
  unfold lastOk
  have e : p2 (c % 8).toNat = 2 ^ (c % 8).toNat := rfl
  have hp := p2_pos (c % 8).toNat
  rw [← e]
  generalize p2 (c % 8).toNat = q at *
  rw [Bool.eq_iff_iff]
  simp only [decide_eq_true_eq, beq_iff_eq]
  constructor
  · intro h; exact Int.ediv_eq_zero_of_lt (by omega) h
  · intro h
    have := Int.lt_mul_ediv_self_add (x := ((last s : Nat) : Int)) (show 0 < q by omega)
    rw [h] at this
    omega

/-- A right Out. -/
def outB (s : ByteArray) (c : Int) : Bool := decide (s.size ≤ 12000 ∧ 0 ≤ c ∧ c ≤ 8 * s.size ∧ (c + 7) / 8 = s.size) && (decide (c % 8 = 0) || lastOk s c)
theorem outB_no (s : ByteArray) (c : Int) (h : ¬ Fits s c) : outB s c = false := by
  have h' : ¬ (s.size ≤ 12000 ∧ 0 ≤ c ∧ c ≤ 8 * s.size ∧ (c + 7) / 8 = s.size) := h
  unfold outB
  rw [decide_eq_false h']
  rfl
theorem outB_fit0 (s : ByteArray) (c : Int) (h : Fits s c) (hc : c % 8 = 0) : outB s c = true := by
  have h' : s.size ≤ 12000 ∧ 0 ≤ c ∧ c ≤ 8 * s.size ∧ (c + 7) / 8 = s.size := h
  unfold outB
  rw [decide_eq_true h', decide_eq_true hc]
  rfl
theorem outB_fit1 (s : ByteArray) (c : Int) (h : Fits s c) (hc : ¬ c % 8 = 0) : outB s c = lastOk s c := by
  have h' : s.size ≤ 12000 ∧ 0 ≤ c ∧ c ≤ 8 * s.size ∧ (c + 7) / 8 = s.size := h
  unfold outB
  rw [decide_eq_true h', decide_eq_false hc]
  rfl
theorem fits_of_outB (s : ByteArray) (c : Int) (h : outB s c = true) : Fits s c := by
  refine Classical.byContradiction fun hn => ?_
  rw [outB_no s c hn] at h
  cases h

end OutMath
end Go.Proofs.YtedbmhelmenknaaDoor

namespace Go.Proofs.YtedbmhelmenknaaDoor
namespace CodeMath
open OutMath

/-- All lengths are in 0 .. 15. -/
def OkLens (f : Nat → Int) (n : Nat) : Prop := ∀ i, i < n → 0 ≤ f i ∧ f i ≤ 15
/-- To what the first k lengths are full. -/
def room (f : Nat → Int) : Nat → Int
  | 0 => 0
  | k + 1 => room f k + (if 0 < f k then p2 (15 - f k).toNat else 0)
/-- How many of the first k are not 0. -/
def cnt (f : Nat → Int) : Nat → Int
  | 0 => 0
  | k + 1 => cnt f k + (if 0 < f k then 1 else 0)
/-- How many of the first k are s. -/
def cntS (f : Nat → Int) (s : Int) : Nat → Int
  | 0 => 0
  | k + 1 => cntS f s k + (if f k = s then 1 else 0)
/-- The number behind the last code of length s. -/
def nx (f : Nat → Int) (n : Nat) : Nat → Int
  | 0 => 0
  | s + 1 => 2 * nx f n s + cntS f ((s + 1 : Nat) : Int) n
/-- The code of symbol i. -/
def codeOf (f : Nat → Int) (n i : Nat) : Int := if f i ≤ 0 then 0 else 2 * nx f n ((f i).toNat - 1) + cntS f (f i) i

theorem room_bd (f : Nat → Int) : ∀ k, 0 ≤ room f k ∧ (OkLens f k → room f k ≤ 16384 * k)
  | 0 => by simp [room]
  | k + 1 => by
    have h := room_bd f k
    have hp := p2_pos (15 - f k).toNat
    refine ⟨by unfold room; split <;> omega, fun ho => ?_⟩
    have h2 := h.2 (fun i hi => ho i (by omega))
    have h3 := ho k (by omega)
    have h4 : 0 < f k → p2 (15 - f k).toNat ≤ 16384 := fun hf => by
      have := p2_le (show (15 - f k).toNat ≤ 14 by omega)
      have e : p2 14 = 16384 := by decide +kernel
      omega
    unfold room
    split
    · have := h4 (by assumption); omega
    · omega
theorem cnt_bd (f : Nat → Int) : ∀ k : Nat, 0 ≤ cnt f k ∧ cnt f k ≤ k
  | 0 => by simp [cnt]
  | k + 1 => by have h := cnt_bd f k; unfold cnt; split <;> omega
theorem cntS_bd (f : Nat → Int) (s : Int) : ∀ k : Nat, 0 ≤ cntS f s k ∧ cntS f s k ≤ k
  | 0 => by simp [cntS]
  | k + 1 => by have h := cntS_bd f s k; unfold cntS; split <;> omega
theorem cntS_mono (f : Nat → Int) (s : Int) {a : Nat} : ∀ {b : Nat}, a ≤ b → cntS f s a ≤ cntS f s b
  | 0, h => by have : a = 0 := by omega
               subst this; omega
  | b + 1, h => by
    by_cases e : a = b + 1
    · subst e; omega
    · have := cntS_mono f s (show a ≤ b by omega)
      show cntS f s a ≤ cntS f s b + (if f b = s then 1 else 0)
      split <;> omega
theorem cntS_lt (f : Nat → Int) (s : Int) {i n : Nat} (h : i < n) (e : f i = s) : cntS f s i < cntS f s n := by
  have h1 := cntS_mono f s (show i + 1 ≤ n by omega)
  have h2 : cntS f s (i + 1) = cntS f s i + 1 := by
    show cntS f s i + (if f i = s then 1 else 0) = _
    rw [if_pos e]
  omega
theorem nx_bd (f : Nat → Int) (n : Nat) (hn : n ≤ 288) : ∀ s, 0 ≤ nx f n s ∧ nx f n s + 288 ≤ 288 * p2 s
  | 0 => by simp [nx, p2]
  | s + 1 => by
    have h := nx_bd f n hn s
    have hc := cntS_bd f ((s + 1 : Nat) : Int) n
    show 0 ≤ 2 * nx f n s + cntS f ((s + 1 : Nat) : Int) n ∧ 2 * nx f n s + cntS f ((s + 1 : Nat) : Int) n + 288 ≤ _
    rw [p2_succ]
    omega
theorem nx_lt (f : Nat → Int) (n : Nat) (hn : n ≤ 288) (s : Nat) (hs : s ≤ 15) : 0 ≤ nx f n s ∧ nx f n s ≤ 9437184 := by
  have h := nx_bd f n hn s
  have h2 := p2_le hs
  have e : p2 15 = 32768 := by decide +kernel
  omega

/-- The kind of n lengths that are right. -/
def kindOf (f : Nat → Int) (n : Nat) : Int :=
  if cnt f n = 0 then 1 else if room f n = 32768 then 2 else if 32768 < room f n then 5 else if cnt f n = 1 ∧ room f n = 16384 then 3 else 4

/-- What the lengths say: they are not right, or their kind. -/
def Kind (f : Nat → Int) (n : Nat) (k : Int) : Prop := (k = 0 ∧ ¬ (n ≤ 288 ∧ OkLens f n)) ∨ (n ≤ 288 ∧ OkLens f n ∧ k = kindOf f n)
theorem kindOf_bd (f : Nat → Int) (n : Nat) : 1 ≤ kindOf f n ∧ kindOf f n ≤ 5 := by
  unfold kindOf
  split
  · omega
  · split
    · omega
    · split
      · omega
      · split <;> omega
theorem kind_bd {f : Nat → Int} {n : Nat} {k : Int} (h : Kind f n k) : 0 ≤ k ∧ k ≤ 5 := by
  rcases h with ⟨h, _⟩ | ⟨_, _, h⟩
  · omega
  · have := kindOf_bd f n; omega
theorem kind_one {f : Nat → Int} {n : Nat} {k k' : Int} (h : Kind f n k) (h' : Kind f n k') : k = k' := by
  rcases h with ⟨h1, h2⟩ | ⟨h1, h2, h3⟩ <;> rcases h' with ⟨g1, g2⟩ | ⟨g1, g2, g3⟩
  · omega
  · exact absurd ⟨g1, g2⟩ h2
  · exact absurd ⟨h1, h2⟩ g2
  · omega

/-- What is written when lengths below s, and the first i of length s, are gone through. -/
def outAt (f : Nat → Int) (n : Nat) (s : Int) (i : Nat) : Nat → Int := fun j => if 0 < f j ∧ (f j < s ∨ f j = s ∧ j < i) then codeOf f n j else 0

theorem outAt_start (f : Nat → Int) (n j : Nat) : outAt f n 1 0 j = 0 := by
  unfold outAt
  rw [if_neg (by omega)]
theorem outAt_here (f : Nat → Int) (n : Nat) (t j : Nat) (ht : 1 ≤ t) (e : f j = (t : Int)) (i : Nat) : (if i = j then 2 * nx f n (t - 1) + cntS f (t : Int) j else outAt f n t j i) = outAt f n t (j + 1) i := by
  by_cases hij : i = j
  · subst hij
    rw [if_pos rfl]
    unfold outAt
    rw [if_pos (by omega)]
    unfold codeOf
    rw [if_neg (by omega), e, Int.toNat_natCast]
  · rw [if_neg hij]
    unfold outAt
    by_cases h : 0 < f i ∧ (f i < (t : Int) ∨ f i = (t : Int) ∧ i < j)
    · rw [if_pos h, if_pos (by omega)]
    · rw [if_neg h, if_neg (by omega)]
theorem outAt_skip (f : Nat → Int) (n : Nat) (t j : Nat) (e : ¬ f j = (t : Int)) (i : Nat) : outAt f n t j i = outAt f n t (j + 1) i := by
  unfold outAt
  by_cases h : 0 < f i ∧ (f i < (t : Int) ∨ f i = (t : Int) ∧ i < j)
  · rw [if_pos h, if_pos (by omega)]
  · rw [if_neg h, if_neg ?_]
    intro k
    by_cases hij : i = j
    · subst hij; omega
    · omega
theorem outAt_turn (f : Nat → Int) (n t i : Nat) (hi : i < n) : outAt f n t n i = outAt f n ((t + 1 : Nat) : Int) 0 i := by
  unfold outAt
  by_cases h : 0 < f i ∧ (f i < (t : Int) ∨ f i = (t : Int) ∧ i < n)
  · rw [if_pos h, if_pos (by omega)]
  · rw [if_neg h, if_neg (by omega)]
theorem outAt_end (f : Nat → Int) (n i : Nat) (h : f i ≤ 15) : outAt f n ((16 : Nat) : Int) 0 i = codeOf f n i := by
  unfold outAt
  by_cases k : 0 < f i
  · rw [if_pos (by omega)]
  · rw [if_neg (by omega)]
    unfold codeOf
    rw [if_pos (by omega)]
theorem nx_step (f : Nat → Int) (n t : Nat) (ht : 1 ≤ t) : 2 * nx f n (t - 1) + cntS f (t : Int) n = nx f n t := by
  obtain ⟨s, rfl⟩ : ∃ s, t = s + 1 := ⟨t - 1, by omega⟩
  rfl

/-- Lengths that have codes. -/
def Coded (f : Nat → Int) (n : Nat) : Prop := n ≤ 288 ∧ OkLens f n ∧ room f n ≤ 32768
theorem room_of_cnt (f : Nat → Int) : ∀ k, cnt f k = 0 → room f k = 0
  | 0, _ => rfl
  | k + 1, h => by
    have hb := cnt_bd f k
    have h' : cnt f k + (if 0 < f k then 1 else 0) = 0 := h
    by_cases hp : 0 < f k
    · rw [if_pos hp] at h'; omega
    · rw [if_neg hp] at h'
      show room f k + (if 0 < f k then p2 (15 - f k).toNat else 0) = 0
      rw [if_neg hp, room_of_cnt f k (by omega)]
      rfl
theorem kind_good {f : Nat → Int} {n : Nat} {k : Int} (h : Kind f n k) (hG : Coded f n) : k ≠ 0 ∧ k ≠ 5 := by
  obtain ⟨h1, h2, h3⟩ := hG
  rcases h with ⟨_, h⟩ | ⟨_, _, h⟩
  · exact absurd ⟨h1, h2⟩ h
  · have hb := kindOf_bd f n
    refine ⟨by omega, ?_⟩
    rw [h]
    unfold kindOf
    split
    · omega
    · split
      · omega
      · rw [if_neg (by omega)]
        split <;> omega
theorem kind_bad {f : Nat → Int} {n : Nat} {k : Int} (h : Kind f n k) (hB : ¬ Coded f n) : k = 0 ∨ k = 5 := by
  rcases h with ⟨h, _⟩ | ⟨h1, h2, h⟩
  · exact .inl h
  · right
    have hr : 32768 < room f n := by
      by_cases hq : 32768 < room f n
      · exact hq
      · exact absurd ⟨h1, h2, by omega⟩ hB
    have hc : ¬ cnt f n = 0 := fun e => by have := room_of_cnt f n e; omega
    rw [h]
    unfold kindOf
    rw [if_neg hc, if_neg (by omega), if_pos hr]

/-- The sum of count times length. -/
def cost (f c : Nat → Int) : Nat → Int
  | 0 => 0
  | k + 1 => cost f c k + c k * f k
def CountOk (f c : Nat → Int) (i : Nat) : Prop := 0 ≤ c i ∧ c i ≤ 12000 ∧ ¬ (0 < c i ∧ f i = 0)
theorem cost_bd (f c : Nat → Int) (k : Nat) (hf : OkLens f k) (hc : ∀ i, i < k → CountOk f c i) : 0 ≤ cost f c k ∧ cost f c k ≤ 180000 * k := by
  induction k with
  | zero => simp [cost]
  | succ k ih =>
    have h := ih (fun i hi => hf i (by omega)) (fun i hi => hc i (by omega))
    have h1 := hf k (by omega)
    have h2 := hc k (by omega)
    unfold CountOk at h2
    have h3 : 0 ≤ c k * f k := Int.mul_nonneg h2.1 h1.1
    have h4 : c k * f k ≤ 12000 * f k := Int.mul_le_mul_of_nonneg_right h2.2.1 h1.1
    unfold cost
    omega

/-- What CostOf answers. -/
def CostRight (f c : Nat → Int) (n m : Nat) : Prop := n = m ∧ n ≤ 288 ∧ OkLens f n ∧ ∀ i, i < n → CountOk f c i
def CostSays (f c : Nat → Int) (n m : Nat) (x : Int) (b : Bool) : Prop := (b = true ∧ CostRight f c n m ∧ x = cost f c n) ∨ (b = false ∧ x = 0 ∧ ¬ CostRight f c n m)
theorem cost_one {f c : Nat → Int} {n m : Nat} {x x' : Int} {b b' : Bool} (h : CostSays f c n m x b) (h' : CostSays f c n m x' b') : x' = x ∧ b' = b := by
  rcases h with ⟨h1, h2, h3⟩ | ⟨h1, h2, h3⟩ <;> rcases h' with ⟨g1, g2, g3⟩ | ⟨g1, g2, g3⟩
  · exact ⟨by rw [h3, g3], by rw [h1, g1]⟩
  · exact absurd h2 g3
  · exact absurd g2 h3
  · exact ⟨by rw [h2, g2], by rw [h1, g1]⟩

end CodeMath
end Go.Proofs.YtedbmhelmenknaaDoor

namespace Go.Proofs.YtedbmhelmenknaaDoor
namespace TakeMath
open OutMath

def byteAt (s : ByteArray) (i : Nat) : Nat := (s.data[i]?.getD 0).toNat
theorem byteAt_lt (s : ByteArray) (i : Nat) : byteAt s i < 256 := UInt8.toNat_lt _
theorem byteAt_get (s : ByteArray) (i : Nat) (h : i < s.size) : (s[i]'h).toNat = byteAt s i := by
  unfold byteAt
  have h' : i < s.data.size := h
  rw [Array.getElem?_eq_getElem h']
  rfl

/-- Bit i of a text. -/
def bit (s : ByteArray) (i : Nat) : Int := (byteAt s (i / 8) : Int) / p2 (i % 8) % 2
theorem bit_01 (s : ByteArray) (i : Nat) : 0 ≤ bit s i ∧ bit s i ≤ 1 := by unfold bit; omega

/-- The number whose bits, the lowest first, are the k from bit a on. -/
def num (s : ByteArray) (a : Nat) : Nat → Int
  | 0 => 0
  | k + 1 => num s a k + bit s (a + k) * p2 k
theorem mul01 (b q : Int) (h0 : 0 ≤ b) (h1 : b ≤ 1) (hq : 1 ≤ q) : 0 ≤ b * q ∧ b * q ≤ q := by
  have : b = 0 ∨ b = 1 := by omega
  rcases this with rfl | rfl <;> omega
theorem num_bd (s : ByteArray) (a : Nat) : ∀ k, 0 ≤ num s a k ∧ num s a k < p2 k
  | 0 => by simp [num, p2]
  | k + 1 => by
    have h := num_bd s a k
    have hb := bit_01 s (a + k)
    have hm := mul01 _ _ hb.1 hb.2 (p2_pos k)
    unfold num
    rw [p2_succ]
    omega

theorem p2_24 {n : Nat} (h : n ≤ 24) : p2 n ≤ 16777216 := by
  have h1 := p2_le h
  have h2 : p2 24 = 16777216 := by decide +kernel
  omega

theorem div_bd (x : Nat) (q : Int) (hq : 1 ≤ q) : 0 ≤ (x : Int) / q ∧ (x : Int) / q ≤ x := ⟨Int.ediv_nonneg (by omega) (by omega), Int.ediv_le_self _ (by omega)⟩
theorem bit_walk (s : ByteArray) (i : Nat) : (Go.RowKit.wrap64 ((byteAt s (i / 8) : Int) / p2 (i % 8))).tmod 2 = bit s i := by
  have h := div_bd (byteAt s (i / 8)) (p2 (i % 8)) (p2_pos _)
  have hb := byteAt_lt s (i / 8)
  have e : Go.RowKit.wrap64 ((byteAt s (i / 8) : Int) / p2 (i % 8)) = (byteAt s (i / 8) : Int) / p2 (i % 8) := by
    unfold Go.RowKit.wrap64; omega
  rw [e, Int.tmod_eq_emod_of_nonneg h.1]
  rfl

theorem i64_and_nat (a b : Nat) (ha : a < 9223372036854775808) (hb : b < 9223372036854775808) : bits .and .i64 (a : Int) (b : Int) = ((a &&& b : Nat) : Int) := by
  have h1 : (BitVec.ofInt 64 (a : Int)).toNat = a := by
    rw [BitVec.ofInt_natCast, BitVec.toNat_ofNat]; exact Nat.mod_eq_of_lt (by omega)
  have h2 : (BitVec.ofInt 64 (b : Int)).toNat = b := by
    rw [BitVec.ofInt_natCast, BitVec.toNat_ofNat]; exact Nat.mod_eq_of_lt (by omega)
  have hx : a &&& b < 2 ^ 63 := Nat.and_lt_two_pow _ (by omega)
  show IntKind.i64.wrap ((BitVec.ofInt 64 (a : Int) &&& BitVec.ofInt 64 (b : Int)).toNat : Int) = _
  rw [BitVec.toNat_and, h1, h2, IntKind.wrap_i64]
  omega
theorem i64_or_nat (a b : Nat) (ha : a < 9223372036854775808) (hb : b < 9223372036854775808) : bits .or .i64 (a : Int) (b : Int) = ((a ||| b : Nat) : Int) := by
  have h1 : (BitVec.ofInt 64 (a : Int)).toNat = a := by
    rw [BitVec.ofInt_natCast, BitVec.toNat_ofNat]; exact Nat.mod_eq_of_lt (by omega)
  have h2 : (BitVec.ofInt 64 (b : Int)).toNat = b := by
    rw [BitVec.ofInt_natCast, BitVec.toNat_ofNat]; exact Nat.mod_eq_of_lt (by omega)
  have hx : a ||| b < 2 ^ 63 := Nat.or_lt_two_pow (by omega) (by omega)
  show IntKind.i64.wrap ((BitVec.ofInt 64 (a : Int) ||| BitVec.ofInt 64 (b : Int)).toNat : Int) = _
  rw [BitVec.toNat_or, h1, h2, IntKind.wrap_i64]
  omega
theorem and1 (x : Int) (h0 : 0 ≤ x) (h1 : x < 9223372036854775808) : bits .and .i64 x 1 = x % 2 := by
  obtain ⟨n, rfl⟩ := Int.eq_ofNat_of_zero_le h0
  have := i64_and_nat n 1 (by omega) (by omega)
  rw [nat_mask1] at this
  rw [show ((1 : Nat) : Int) = 1 from rfl] at this
  rw [this]
  omega
theorem bit_and (s : ByteArray) (i : Nat) : bits .and .i64 (Go.RowKit.wrap64 ((byteAt s (i / 8) : Int) / 2 ^ (i % 8))) 1 = bit s i := by
  have h := div_bd (byteAt s (i / 8)) (p2 (i % 8)) (p2_pos _)
  have hb := byteAt_lt s (i / 8)
  have e : Go.RowKit.wrap64 ((byteAt s (i / 8) : Int) / 2 ^ (i % 8)) = (byteAt s (i / 8) : Int) / p2 (i % 8) := by
    show Go.RowKit.wrap64 ((byteAt s (i / 8) : Int) / p2 (i % 8)) = _
    unfold Go.RowKit.wrap64; omega
  rw [e, and1 _ h.1 (by omega)]
  rfl

/-- Below two to the k a number, and a bit at k: 'or' is plus. -/
theorem or_bit (x b : Int) (k : Nat) (hk : k ≤ 24) (h0 : 0 ≤ x) (h1 : x < p2 k) (b0 : 0 ≤ b) (b1 : b ≤ 1) : bits .or .i64 x (b * p2 k) = x + b * p2 k := by
  have hm := mul01 b (p2 k) b0 b1 (p2_pos k)
  have hp := p2_24 hk
  obtain ⟨n, rfl⟩ := Int.eq_ofNat_of_zero_le h0
  obtain ⟨m, rfl⟩ := Int.eq_ofNat_of_zero_le b0
  rw [p2_nat] at h1 hm hp ⊢
  rw [show ((m : Int) * ((2 ^ k : Nat) : Int)) = ((m * 2 ^ k : Nat) : Int) from (Int.natCast_mul _ _).symm] at hm ⊢
  rw [i64_or_nat _ _ (by omega) (by omega), Nat.or_comm, nat_join k (m * 2 ^ k) n (by simp) (by omega)]
  omega

theorem or_bitW (x b : Int) (k : Nat) (hk : k ≤ 24) (h0 : 0 ≤ x) (h1 : x < p2 k) (b0 : 0 ≤ b) (b1 : b ≤ 1) : bits .or .i64 x (Go.RowKit.wrap64 (b * 2 ^ k)) = x + b * p2 k := by
  have hm := mul01 b (p2 k) b0 b1 (p2_pos k)
  have hp := p2_24 hk
  have e : Go.RowKit.wrap64 (b * 2 ^ k) = b * p2 k := by
    show Go.RowKit.wrap64 (b * p2 k) = _
    unfold Go.RowKit.wrap64; omega
  rw [e]
  exact or_bit x b k hk h0 h1 b0 b1

end TakeMath
end Go.Proofs.YtedbmhelmenknaaDoor
