/-
  Plain facts on prefix codes that are told by their lengths; nothing here speaks of the program.
  Plain facts on codes as beginnings of bits; nothing here speaks of the program.
-/
import Derived.Test.YtbcnlggkoidmmaaPk01
import Derived.Test.YtbcnlggkoidmmaaPk03
import Derived.WalkKit
namespace Go.Proofs.Ytbcnlggkoidmmaa
namespace CodeMath
open OutMath

/-- All lengths are in 0 .. 15. -/
def OkLens (f : Nat → Int) (n : Nat) : Prop := ∀ i, i < n → 0 ≤ f i ∧ f i ≤ 15
/-- To what the first k lengths are full. -/
def room (f : Nat → Int) : Nat → Int
  | 0 => 0
  | k + 1 => room f k + (if 0 < f k then p2 (15 - f k).toNat else 0)
/-- How many of the first k are not 0. -/
def cnt (f : Nat → Int) : Nat → Int
  | 0 => 0
  | k + 1 => cnt f k + (if 0 < f k then 1 else 0)
/-- How many of the first k are s. -/
def cntS (f : Nat → Int) (s : Int) : Nat → Int
  | 0 => 0
  | k + 1 => cntS f s k + (if f k = s then 1 else 0)
/-- The number behind the last code of length s. -/
def nx (f : Nat → Int) (n : Nat) : Nat → Int
  | 0 => 0
  | s + 1 => 2 * nx f n s + cntS f ((s + 1 : Nat) : Int) n
/-- The code of symbol i. -/
def codeOf (f : Nat → Int) (n i : Nat) : Int := if f i ≤ 0 then 0 else 2 * nx f n ((f i).toNat - 1) + cntS f (f i) i

theorem room_bd (f : Nat → Int) : ∀ k, 0 ≤ room f k ∧ (OkLens f k → room f k ≤ 16384 * k)
  | 0 => by simp [room]
  | k + 1 => by
    have h := room_bd f k
    have hp := p2_pos (15 - f k).toNat
    refine ⟨by unfold room; split <;> omega, fun ho => ?_⟩
    have h2 := h.2 (fun i hi => ho i (by omega))
    have h3 := ho k (by omega)
    have h4 : 0 < f k → p2 (15 - f k).toNat ≤ 16384 := fun hf => by
      have := p2_le (show (15 - f k).toNat ≤ 14 by omega)
      have e : p2 14 = 16384 := by decide +kernel
      omega
    unfold room
    split
    · have := h4 (by assumption); omega
    · omega
theorem cnt_bd (f : Nat → Int) : ∀ k : Nat, 0 ≤ cnt f k ∧ cnt f k ≤ k
  | 0 => by simp [cnt]
  | k + 1 => by have h := cnt_bd f k; unfold cnt; split <;> omega
theorem cntS_bd (f : Nat → Int) (s : Int) : ∀ k : Nat, 0 ≤ cntS f s k ∧ cntS f s k ≤ k
  | 0 => by simp [cntS]
  | k + 1 => by have h := cntS_bd f s k; unfold cntS; split <;> omega
theorem cntS_mono (f : Nat → Int) (s : Int) {a : Nat} : ∀ {b : Nat}, a ≤ b → cntS f s a ≤ cntS f s b
  | 0, h => by have : a = 0 := by omega
               subst this; omega
  | b + 1, h => by
    by_cases e : a = b + 1
    · subst e; omega
    · have := cntS_mono f s (show a ≤ b by omega)
      show cntS f s a ≤ cntS f s b + (if f b = s then 1 else 0)
      split <;> omega
theorem cntS_lt (f : Nat → Int) (s : Int) {i n : Nat} (h : i < n) (e : f i = s) : cntS f s i < cntS f s n := by
  have h1 := cntS_mono f s (show i + 1 ≤ n by omega)
  have h2 : cntS f s (i + 1) = cntS f s i + 1 := by
    show cntS f s i + (if f i = s then 1 else 0) = _
    rw [if_pos e]
  omega
theorem nx_bd (f : Nat → Int) (n : Nat) (hn : n ≤ 288) : ∀ s, 0 ≤ nx f n s ∧ nx f n s + 288 ≤ 288 * p2 s
  | 0 => by simp [nx, p2]
  | s + 1 => by
    have h := nx_bd f n hn s
    have hc := cntS_bd f ((s + 1 : Nat) : Int) n
    show 0 ≤ 2 * nx f n s + cntS f ((s + 1 : Nat) : Int) n ∧ 2 * nx f n s + cntS f ((s + 1 : Nat) : Int) n + 288 ≤ _
    rw [p2_succ]
    omega
theorem nx_lt (f : Nat → Int) (n : Nat) (hn : n ≤ 288) (s : Nat) (hs : s ≤ 15) : 0 ≤ nx f n s ∧ nx f n s ≤ 9437184 := by
  have h := nx_bd f n hn s
  have h2 := p2_le hs
  have e : p2 15 = 32768 := by decide +kernel
  omega

/-- The kind of n lengths that are right. -/
def kindOf (f : Nat → Int) (n : Nat) : Int :=
  if cnt f n = 0 then 1 else if room f n = 32768 then 2 else if 32768 < room f n then 5 else if cnt f n = 1 ∧ room f n = 16384 then 3 else 4

/-- What the lengths say: they are not right, or their kind. -/
def Kind (f : Nat → Int) (n : Nat) (k : Int) : Prop := (k = 0 ∧ ¬ (n ≤ 288 ∧ OkLens f n)) ∨ (n ≤ 288 ∧ OkLens f n ∧ k = kindOf f n)
theorem kindOf_bd (f : Nat → Int) (n : Nat) : 1 ≤ kindOf f n ∧ kindOf f n ≤ 5 := by
  unfold kindOf
  split
  · omega
  · split
    · omega
    · split
      · omega
      · split <;> omega
theorem kind_bd {f : Nat → Int} {n : Nat} {k : Int} (h : Kind f n k) : 0 ≤ k ∧ k ≤ 5 := by
  rcases h with ⟨h, _⟩ | ⟨_, _, h⟩
  · omega
  · have := kindOf_bd f n; omega
theorem kind_one {f : Nat → Int} {n : Nat} {k k' : Int} (h : Kind f n k) (h' : Kind f n k') : k = k' := by
  rcases h with ⟨h1, h2⟩ | ⟨h1, h2, h3⟩ <;> rcases h' with ⟨g1, g2⟩ | ⟨g1, g2, g3⟩
  · omega
  · exact absurd ⟨g1, g2⟩ h2
  · exact absurd ⟨h1, h2⟩ g2
  · omega

/-- What is written when lengths below s, and the first i of length s, are gone through. -/
def outAt (f : Nat → Int) (n : Nat) (s : Int) (i : Nat) : Nat → Int := fun j => if 0 < f j ∧ (f j < s ∨ f j = s ∧ j < i) then codeOf f n j else 0

theorem outAt_start (f : Nat → Int) (n j : Nat) : outAt f n 1 0 j = 0 := by
  unfold outAt
  rw [if_neg (by omega)]
theorem outAt_here (f : Nat → Int) (n : Nat) (t j : Nat) (ht : 1 ≤ t) (e : f j = (t : Int)) (i : Nat) : (if i = j then 2 * nx f n (t - 1) + cntS f (t : Int) j else outAt f n t j i) = outAt f n t (j + 1) i := by
  by_cases hij : i = j
  · subst hij
    rw [if_pos rfl]
    unfold outAt
    rw [if_pos (by omega)]
    unfold codeOf
    rw [if_neg (by omega), e, Int.toNat_natCast]
  · rw [if_neg hij]
    unfold outAt
    by_cases h : 0 < f i ∧ (f i < (t : Int) ∨ f i = (t : Int) ∧ i < j)
    · rw [if_pos h, if_pos (by omega)]
    · rw [if_neg h, if_neg (by omega)]
theorem outAt_skip (f : Nat → Int) (n : Nat) (t j : Nat) (e : ¬ f j = (t : Int)) (i : Nat) : outAt f n t j i = outAt f n t (j + 1) i := by
  unfold outAt
  by_cases h : 0 < f i ∧ (f i < (t : Int) ∨ f i = (t : Int) ∧ i < j)
  · rw [if_pos h, if_pos (by omega)]
  · rw [if_neg h, if_neg ?_]
    intro k
    by_cases hij : i = j
    · subst hij; omega
    · omega
theorem outAt_turn (f : Nat → Int) (n t i : Nat) (hi : i < n) : outAt f n t n i = outAt f n ((t + 1 : Nat) : Int) 0 i := by
  unfold outAt
  by_cases h : 0 < f i ∧ (f i < (t : Int) ∨ f i = (t : Int) ∧ i < n)
  · rw [if_pos h, if_pos (by omega)]
  · rw [if_neg h, if_neg (by omega)]
theorem outAt_end (f : Nat → Int) (n i : Nat) (h : f i ≤ 15) : outAt f n ((16 : Nat) : Int) 0 i = codeOf f n i := by
  unfold outAt
  by_cases k : 0 < f i
  · rw [if_pos (by omega)]
  · rw [if_neg (by omega)]
    unfold codeOf
    rw [if_pos (by omega)]
theorem nx_step (f : Nat → Int) (n t : Nat) (ht : 1 ≤ t) : 2 * nx f n (t - 1) + cntS f (t : Int) n = nx f n t := by
  obtain ⟨s, rfl⟩ : ∃ s, t = s + 1 := ⟨t - 1, by omega⟩
  rfl

/-- Lengths that have codes. -/
def Coded (f : Nat → Int) (n : Nat) : Prop := n ≤ 288 ∧ OkLens f n ∧ room f n ≤ 32768
theorem room_of_cnt (f : Nat → Int) : ∀ k, cnt f k = 0 → room f k = 0
  | 0, _ => rfl
  | k + 1, h => by
    have hb := cnt_bd f k
    have h' : cnt f k + (if 0 < f k then 1 else 0) = 0 := h
    by_cases hp : 0 < f k
    · rw [if_pos hp] at h'; omega
    · rw [if_neg hp] at h'
      show room f k + (if 0 < f k then p2 (15 - f k).toNat else 0) = 0
      rw [if_neg hp, room_of_cnt f k (by omega)]
      rfl
theorem kind_good {f : Nat → Int} {n : Nat} {k : Int} (h : Kind f n k) (hG : Coded f n) : k ≠ 0 ∧ k ≠ 5 := by
  obtain ⟨h1, h2, h3⟩ := hG
  rcases h with ⟨_, h⟩ | ⟨_, _, h⟩
  · exact absurd ⟨h1, h2⟩ h
  · have hb := kindOf_bd f n
    refine ⟨by omega, ?_⟩
    rw [h]
    unfold kindOf
    split
    · omega
    · split
      · omega
      · rw [if_neg (by omega)]
        split <;> omega
theorem kind_bad {f : Nat → Int} {n : Nat} {k : Int} (h : Kind f n k) (hB : ¬ Coded f n) : k = 0 ∨ k = 5 := by
  rcases h with ⟨h, _⟩ | ⟨h1, h2, h⟩
  · exact .inl h
  · right
    have hr : 32768 < room f n := by
      by_cases hq : 32768 < room f n
      · exact hq
      · exact absurd ⟨h1, h2, by omega⟩ hB
    have hc : ¬ cnt f n = 0 := fun e => by have := room_of_cnt f n e; omega
    rw [h]
    unfold kindOf
    rw [if_neg hc, if_neg (by omega), if_pos hr]

/-- The sum of count times length. -/
def cost (f c : Nat → Int) : Nat → Int
  | 0 => 0
  | k + 1 => cost f c k + c k * f k
def CountOk (f c : Nat → Int) (i : Nat) : Prop := 0 ≤ c i ∧ c i ≤ 12000 ∧ ¬ (0 < c i ∧ f i = 0)
theorem cost_bd (f c : Nat → Int) (k : Nat) (hf : OkLens f k) (hc : ∀ i, i < k → CountOk f c i) : 0 ≤ cost f c k ∧ cost f c k ≤ 180000 * k := by
  induction k with
  | zero => simp [cost]
  | succ k ih =>
    have h := ih (fun i hi => hf i (by omega)) (fun i hi => hc i (by omega))
    have h1 := hf k (by omega)
    have h2 := hc k (by omega)
    unfold CountOk at h2
    have h3 : 0 ≤ c k * f k := Int.mul_nonneg h2.1 h1.1
    have h4 : c k * f k ≤ 12000 * f k := Int.mul_le_mul_of_nonneg_right h2.2.1 h1.1
    unfold cost
    omega

/-- What CostOf answers. -/
def CostRight (f c : Nat → Int) (n m : Nat) : Prop := n = m ∧ n ≤ 288 ∧ OkLens f n ∧ ∀ i, i < n → CountOk f c i
def CostSays (f c : Nat → Int) (n m : Nat) (x : Int) (b : Bool) : Prop := (b = true ∧ CostRight f c n m ∧ x = cost f c n) ∨ (b = false ∧ x = 0 ∧ ¬ CostRight f c n m)
theorem cost_one {f c : Nat → Int} {n m : Nat} {x x' : Int} {b b' : Bool} (h : CostSays f c n m x b) (h' : CostSays f c n m x' b') : x' = x ∧ b' = b := by
  rcases h with ⟨h1, h2, h3⟩ | ⟨h1, h2, h3⟩ <;> rcases h' with ⟨g1, g2, g3⟩ | ⟨g1, g2, g3⟩
  · exact ⟨by rw [h3, g3], by rw [h1, g1]⟩
  · exact absurd h2 g3
  · exact absurd g2 h3
  · exact ⟨by rw [h2, g2], by rw [h1, g1]⟩

end CodeMath
end Go.Proofs.Ytbcnlggkoidmmaa

namespace Go.Proofs.Ytbcnlggkoidmmaa
namespace HitMath
open OutMath CodeMath TakeMath

/-- The number whose bits, the highest first, are the k from bit a on. -/
def hi (s : ByteArray) (a : Nat) : Nat → Int
  | 0 => 0
  | k + 1 => 2 * hi s a k + bit s (a + k)
theorem hi_bd (s : ByteArray) (a : Nat) : ∀ k, 0 ≤ hi s a k ∧ hi s a k < p2 k
  | 0 => by simp [hi, p2]
  | k + 1 => by
    have h := hi_bd s a k
    have hb := bit_01 s (a + k)
    unfold hi
    rw [p2_succ]
    omega
theorem p2_add (a b : Nat) : p2 (a + b) = p2 a * p2 b := by unfold p2; exact Int.pow_add 2 a b
theorem hi_div (s : ByteArray) (a k : Nat) : ∀ m, hi s a (k + m) / p2 m = hi s a k
  | 0 => by rw [p2_zero]; simp
  | m + 1 => by
    have h := hi_div s a k m
    have hb := bit_01 s (a + (k + m))
    rw [p2_succ, ← Int.ediv_ediv_of_nonneg (by omega)]
    have e : hi s a (k + (m + 1)) / 2 = hi s a (k + m) := by
      show (2 * hi s a (k + m) + bit s (a + (k + m))) / 2 = _
      omega
    rw [e, h]

theorem nx_ge (f : Nat → Int) (n t : Nat) : ∀ d, p2 d * nx f n t ≤ nx f n (t + d)
  | 0 => by rw [p2_zero]; simp
  | d + 1 => by
    have h := nx_ge f n t d
    have hc := cntS_bd f ((t + d + 1 : Nat) : Int) n
    have e : nx f n (t + (d + 1)) = 2 * nx f n (t + d) + cntS f ((t + d + 1 : Nat) : Int) n := rfl
    rw [e, p2_succ, Int.mul_assoc]
    omega
theorem code_in {f : Nat → Int} {n i k : Nat} (hi : i < n) (hk : 1 ≤ k) (e : f i = (k : Int)) : 2 * nx f n (k - 1) ≤ codeOf f n i ∧ codeOf f n i < nx f n k := by
  unfold codeOf
  rw [if_neg (by omega), e, Int.toNat_natCast, ← nx_step f n k hk]
  have h1 := cntS_bd f (k : Int) i
  have h2 := cntS_lt f (k : Int) hi e
  omega
theorem code_inj {f : Nat → Int} {n i j : Nat} (_hi : i < n) (_hj : j < n) (hp : 0 < f i) (e : f i = f j) (h : codeOf f n i = codeOf f n j) : i = j := by
  unfold codeOf at h
  rw [if_neg (by omega), if_neg (by omega), e] at h
  rcases Nat.lt_trichotomy i j with q | q | q
  · have := cntS_lt f (f j) q e
    omega
  · exact q
  · have := cntS_lt f (f j) q rfl
    omega
/-- No code begins another one. -/
theorem prefix_free {f : Nat → Int} {n i j k d : Nat} (hi : i < n) (hj : j < n) (hk : 1 ≤ k) (ei : f i = (k : Int)) (ej : f j = ((k + d : Nat) : Int)) (h : codeOf f n j / p2 d = codeOf f n i) : i = j := by
  have hpd := p2_pos d
  rcases Nat.eq_zero_or_pos d with rfl | hd
  · rw [p2_zero, Int.ediv_one] at h
    exact code_inj hi hj (by omega) (by rw [ei, ej]; simp) h.symm
  · exfalso
    have h1 := code_in hi hk ei
    have h2 := code_in hj (show 1 ≤ k + d by omega) ej
    have h3 := nx_ge f n k (d - 1)
    have e2 : k + d - 1 = k + (d - 1) := by omega
    rw [e2] at h2
    have e3 : p2 d = 2 * p2 (d - 1) := by
      have : d = d - 1 + 1 := by omega
      rw [this, p2_succ]
      simp
    have h4 : p2 d * nx f n k ≤ codeOf f n j := by
      rw [e3, Int.mul_assoc]
      omega
    have h5 : nx f n k ≤ codeOf f n j / p2 d := by
      rw [Int.le_ediv_iff_mul_le (by omega), Int.mul_comm]
      exact h4
    omega

/-- The room is the number behind the last code. -/
def part (s : Nat) (x : Int) : Int := if 1 ≤ x ∧ x ≤ (s : Int) then p2 (s - x.toNat) else 0
theorem nx_add (f : Nat → Int) (n : Nat) : ∀ s, nx f (n + 1) s = nx f n s + part s (f n)
  | 0 => by
    show (0 : Int) = 0 + part 0 (f n)
    unfold part
    rw [if_neg (by omega)]
    rfl
  | s + 1 => by
    show 2 * nx f (n + 1) s + (cntS f ((s + 1 : Nat) : Int) n + (if f n = ((s + 1 : Nat) : Int) then 1 else 0)) = 2 * nx f n s + cntS f ((s + 1 : Nat) : Int) n + part (s + 1) (f n)
    rw [nx_add f n s]
    unfold part
    by_cases h1 : 1 ≤ f n ∧ f n ≤ (s : Int)
    · rw [if_pos h1, if_neg (by omega), if_pos (by omega), show s + 1 - (f n).toNat = s - (f n).toNat + 1 by omega, p2_succ]
      omega
    · by_cases h2 : f n = ((s + 1 : Nat) : Int)
      · rw [if_neg h1, if_pos h2, if_pos (by omega), show s + 1 - (f n).toNat = 0 by omega, p2_zero]
        omega
      · rw [if_neg h1, if_neg h2, if_neg (by omega)]
        omega
theorem room_nx (f : Nat → Int) : ∀ n, OkLens f n → room f n = nx f n 15
  | 0, _ => by
    have e : ∀ s, nx f 0 s = 0 := by
      intro s
      induction s with
      | zero => rfl
      | succ s ih => show 2 * nx f 0 s + 0 = 0; omega
    rw [e]
    rfl
  | n + 1, h => by
    have hn := h n (by omega)
    rw [nx_add, ← room_nx f n (fun i hi => h i (by omega))]
    show room f n + (if 0 < f n then p2 (15 - f n).toNat else 0) = room f n + part 15 (f n)
    unfold part
    by_cases hp : 0 < f n
    · rw [if_pos hp, if_pos (by omega), show (15 - f n).toNat = 15 - (f n).toNat by omega]
    · rw [if_neg hp, if_neg (by omega)]
theorem nx_le {f : Nat → Int} {n : Nat} (h : Coded f n) (k : Nat) (hk : k ≤ 15) : nx f n k ≤ p2 k := by
  obtain ⟨_, h2, h3⟩ := h
  rw [room_nx f n h2] at h3
  have h4 := nx_ge f n k (15 - k)
  rw [show k + (15 - k) = 15 by omega] at h4
  have e : p2 15 = p2 (15 - k) * p2 k := by rw [← p2_add, show 15 - k + k = 15 by omega]
  have e2 : p2 15 = 32768 := by decide +kernel
  have hp := p2_pos (15 - k)
  exact Int.le_of_mul_le_mul_left (by omega) (show 0 < p2 (15 - k) by omega)
theorem code_lt {f : Nat → Int} {n i : Nat} (h : Coded f n) (hi : i < n) : 0 ≤ codeOf f n i ∧ codeOf f n i < p2 (f i).toNat := by
  have hok := h.2.1 i hi
  by_cases hp : 0 < f i
  · have h1 := code_in hi (show 1 ≤ (f i).toNat by omega) (show f i = ((f i).toNat : Int) by omega)
    have h2 := nx_le h (f i).toNat (by omega)
    have h3 := (nx_bd f n h.1 ((f i).toNat - 1)).1
    omega
  · unfold codeOf
    rw [if_pos (by omega)]
    have := p2_pos (f i).toNat
    omega

/-- Symbol i, of length k, is what comes next. -/
def Hit (f : Nat → Int) (n : Nat) (s : ByteArray) (a : Nat) (i k : Nat) : Prop := i < n ∧ 1 ≤ k ∧ f i = (k : Int) ∧ codeOf f n i = hi s a k ∧ a + k ≤ 8 * s.size
theorem hit_le {f : Nat → Int} {n : Nat} {s : ByteArray} {a i k j l : Nat} (h : Hit f n s a i k) (h' : Hit f n s a j l) (hkl : k ≤ l) : i = j ∧ k = l := by
  obtain ⟨h1, h2, h3, h4, h5⟩ := h
  obtain ⟨g1, g2, g3, g4, g5⟩ := h'
  obtain ⟨d, rfl⟩ := Nat.exists_eq_add_of_le hkl
  have e : i = j := prefix_free h1 g1 h2 h3 g3 (by rw [g4, h4, hi_div])
  subst e
  exact ⟨rfl, by omega⟩
theorem hit_one {f : Nat → Int} {n : Nat} {s : ByteArray} {a i k j l : Nat} (h : Hit f n s a i k) (h' : Hit f n s a j l) : i = j ∧ k = l := by
  rcases Nat.le_total k l with q | q
  · exact hit_le h h' q
  · have := hit_le h' h q
    exact ⟨this.1.symm, this.2.symm⟩

end HitMath
open OutMath CodeMath TakeMath HitMath

/-- Symbol i, of length k, comes next in these Bits. -/
def Next (f : Nat → Int) (n : Nat) (s : ByteArray) (a : Int) (i k : Nat) : Prop := s.size ≤ 12000 ∧ 0 ≤ a ∧ Hit f n s a.toNat i k

theorem next_no {f : Nat → Int} {n : Nat} {s : ByteArray} {a : Int} {j k : Nat} (h : ¬ (f j ≠ 0 ∧ (k : Int) ≤ f j ∧ codeOf f n j / p2 (f j - k).toNat = hi s a.toNat k)) : ∀ l, k ≤ l → ¬ Next f n s a j l := by
  rintro l hl ⟨_, _, _, h2, h3, h4, _⟩
  obtain ⟨d, rfl⟩ := Nat.exists_eq_add_of_le hl
  refine h ⟨by omega, by omega, ?_⟩
  rw [show (f j - (k : Int)).toNat = d by omega, h4, hi_div]

end Go.Proofs.Ytbcnlggkoidmmaa
