/-
  Plain facts on prefix codes that are told by their lengths; nothing here speaks of the program.
-/
import Derived.Test.YtaajieeenjdnbaaOutMath
import Derived.WalkKit
namespace Go.Proofs.Ytaajieeenjdnbaa
namespace CodeMath
open OutMath

/-- All lengths are in 0 .. 15. -/
def OkLens (f : Nat → Int) (n : Nat) : Prop := ∀ i, i < n → 0 ≤ f i ∧ f i ≤ 15
/-- To what the first k lengths are full. -/
def room (f : Nat → Int) : Nat → Int
  | 0 => 0
  | k + 1 => room f k + (if 0 < f k then p2 (15 - f k).toNat else 0)
/-- How many of the first k are not 0. -/
def cnt (f : Nat → Int) : Nat → Int
  | 0 => 0
  | k + 1 => cnt f k + (if 0 < f k then 1 else 0)
/-- How many of the first k are s. -/
def cntS (f : Nat → Int) (s : Int) : Nat → Int
  | 0 => 0
  | k + 1 => cntS f s k + (if f k = s then 1 else 0)
/-- The number behind the last code of length s. -/
def nx (f : Nat → Int) (n : Nat) : Nat → Int
  | 0 => 0
  | s + 1 => 2 * nx f n s + cntS f ((s + 1 : Nat) : Int) n
/-- The code of symbol i. -/
def codeOf (f : Nat → Int) (n i : Nat) : Int := if f i ≤ 0 then 0 else 2 * nx f n ((f i).toNat - 1) + cntS f (f i) i

theorem room_bd (f : Nat → Int) : ∀ k, 0 ≤ room f k ∧ (OkLens f k → room f k ≤ 16384 * k)
  | 0 => by simp [room]
  | k + 1 => by
    have h := room_bd f k
    have hp := p2_pos (15 - f k).toNat
    refine ⟨by unfold room; split <;> omega, fun ho => ?_⟩
    have h2 := h.2 (fun i hi => ho i (by omega))
    have h3 := ho k (by omega)
    have h4 : 0 < f k → p2 (15 - f k).toNat ≤ 16384 := fun hf => by
      have := p2_le (show (15 - f k).toNat ≤ 14 by omega)
      have e : p2 14 = 16384 := by decide +kernel
      omega
    unfold room
    split
    · have := h4 (by assumption); omega
    · omega
theorem cnt_bd (f : Nat → Int) : ∀ k : Nat, 0 ≤ cnt f k ∧ cnt f k ≤ k
  | 0 => by simp [cnt]
  | k + 1 => by have h := cnt_bd f k; unfold cnt; split <;> omega
theorem cntS_bd (f : Nat → Int) (s : Int) : ∀ k : Nat, 0 ≤ cntS f s k ∧ cntS f s k ≤ k
  | 0 => by simp [cntS]
  | k + 1 => by have h := cntS_bd f s k; unfold cntS; split <;> omega
theorem cntS_mono (f : Nat → Int) (s : Int) {a : Nat} : ∀ {b : Nat}, a ≤ b → cntS f s a ≤ cntS f s b
  | 0, h => by have : a = 0 := by omega
               subst this; omega
  | b + 1, h => by
    by_cases e : a = b + 1
    · subst e; omega
    · have := cntS_mono f s (show a ≤ b by omega)
      show cntS f s a ≤ cntS f s b + (if f b = s then 1 else 0)
      split <;> omega
theorem cntS_lt (f : Nat → Int) (s : Int) {i n : Nat} (h : i < n) (e : f i = s) : cntS f s i < cntS f s n := by
  have h1 := cntS_mono f s (show i + 1 ≤ n by omega)
  have h2 : cntS f s (i + 1) = cntS f s i + 1 := by
    show cntS f s i + (if f i = s then 1 else 0) = _
    rw [if_pos e]
  omega
theorem nx_bd (f : Nat → Int) (n : Nat) (hn : n ≤ 288) : ∀ s, 0 ≤ nx f n s ∧ nx f n s + 288 ≤ 288 * p2 s
  | 0 => by simp [nx, p2]
  | s + 1 => by
    have h := nx_bd f n hn s
    have hc := cntS_bd f ((s + 1 : Nat) : Int) n
    show 0 ≤ 2 * nx f n s + cntS f ((s + 1 : Nat) : Int) n ∧ 2 * nx f n s + cntS f ((s + 1 : Nat) : Int) n + 288 ≤ _
    rw [p2_succ]
    omega
theorem nx_lt (f : Nat → Int) (n : Nat) (hn : n ≤ 288) (s : Nat) (hs : s ≤ 15) : 0 ≤ nx f n s ∧ nx f n s ≤ 9437184 := by
  have h := nx_bd f n hn s
  have h2 := p2_le hs
  have e : p2 15 = 32768 := by decide +kernel
  omega

/-- The kind of n lengths that are right. -/
def kindOf (f : Nat → Int) (n : Nat) : Int :=
  if cnt f n = 0 then 1 else if room f n = 32768 then 2 else if 32768 < room f n then 5 else if cnt f n = 1 ∧ room f n = 16384 then 3 else 4

/-- What the lengths say: they are not right, or their kind. -/
def Kind (f : Nat → Int) (n : Nat) (k : Int) : Prop := (k = 0 ∧ ¬ (n ≤ 288 ∧ OkLens f n)) ∨ (n ≤ 288 ∧ OkLens f n ∧ k = kindOf f n)
theorem kindOf_bd (f : Nat → Int) (n : Nat) : 1 ≤ kindOf f n ∧ kindOf f n ≤ 5 := by
  unfold kindOf
  split
  · omega
  · split
    · omega
    · split
      · omega
      · split <;> omega
theorem kind_bd {f : Nat → Int} {n : Nat} {k : Int} (h : Kind f n k) : 0 ≤ k ∧ k ≤ 5 := by
  rcases h with ⟨h, _⟩ | ⟨_, _, h⟩
  · omega
  · have := kindOf_bd f n; omega
theorem kind_one {f : Nat → Int} {n : Nat} {k k' : Int} (h : Kind f n k) (h' : Kind f n k') : k = k' := by
  rcases h with ⟨h1, h2⟩ | ⟨h1, h2, h3⟩ <;> rcases h' with ⟨g1, g2⟩ | ⟨g1, g2, g3⟩
  · omega
  · exact absurd ⟨g1, g2⟩ h2
  · exact absurd ⟨h1, h2⟩ g2
  · omega

/-- What is written when lengths below s, and the first i of length s, are gone through. -/
def outAt (f : Nat → Int) (n : Nat) (s : Int) (i : Nat) : Nat → Int := fun j => if 0 < f j ∧ (f j < s ∨ f j = s ∧ j < i) then codeOf f n j else 0

theorem outAt_start (f : Nat → Int) (n j : Nat) : outAt f n 1 0 j = 0 := by
  unfold outAt
  rw [if_neg (by omega)]
theorem outAt_here (f : Nat → Int) (n : Nat) (t j : Nat) (ht : 1 ≤ t) (e : f j = (t : Int)) (i : Nat) : (if i = j then 2 * nx f n (t - 1) + cntS f (t : Int) j else outAt f n t j i) = outAt f n t (j + 1) i := by
  by_cases hij : i = j
  · subst hij
    rw [if_pos rfl]
    unfold outAt
    rw [if_pos (by omega)]
    unfold codeOf
    rw [if_neg (by omega), e, Int.toNat_natCast]
  · rw [if_neg hij]
    unfold outAt
    by_cases h : 0 < f i ∧ (f i < (t : Int) ∨ f i = (t : Int) ∧ i < j)
    · rw [if_pos h, if_pos (by omega)]
    · rw [if_neg h, if_neg (by omega)]
theorem outAt_skip (f : Nat → Int) (n : Nat) (t j : Nat) (e : ¬ f j = (t : Int)) (i : Nat) : outAt f n t j i = outAt f n t (j + 1) i := by
  unfold outAt
  by_cases h : 0 < f i ∧ (f i < (t : Int) ∨ f i = (t : Int) ∧ i < j)
  · rw [if_pos h, if_pos (by omega)]
  · rw [if_neg h, if_neg ?_]
    intro k
    by_cases hij : i = j
    · subst hij; omega
    · omega
theorem outAt_turn (f : Nat → Int) (n t i : Nat) (hi : i < n) : outAt f n t n i = outAt f n ((t + 1 : Nat) : Int) 0 i := by
  unfold outAt
  by_cases h : 0 < f i ∧ (f i < (t : Int) ∨ f i = (t : Int) ∧ i < n)
  · rw [if_pos h, if_pos (by omega)]
  · rw [if_neg h, if_neg (by omega)]
theorem outAt_end (f : Nat → Int) (n i : Nat) (h : f i ≤ 15) : outAt f n ((16 : Nat) : Int) 0 i = codeOf f n i := by
  unfold outAt
  by_cases k : 0 < f i
  · rw [if_pos (by omega)]
  · rw [if_neg (by omega)]
    unfold codeOf
    rw [if_pos (by omega)]
theorem nx_step (f : Nat → Int) (n t : Nat) (ht : 1 ≤ t) : 2 * nx f n (t - 1) + cntS f (t : Int) n = nx f n t := by
  obtain ⟨s, rfl⟩ : ∃ s, t = s + 1 := ⟨t - 1, by omega⟩
  rfl

/-- Lengths that have codes. -/
def Coded (f : Nat → Int) (n : Nat) : Prop := n ≤ 288 ∧ OkLens f n ∧ room f n ≤ 32768
theorem room_of_cnt (f : Nat → Int) : ∀ k, cnt f k = 0 → room f k = 0
  | 0, _ => rfl
  | k + 1, h => by
    have hb := cnt_bd f k
    have h' : cnt f k + (if 0 < f k then 1 else 0) = 0 := h
    by_cases hp : 0 < f k
    · rw [if_pos hp] at h'; omega
    · rw [if_neg hp] at h'
      show room f k + (if 0 < f k then p2 (15 - f k).toNat else 0) = 0
      rw [if_neg hp, room_of_cnt f k (by omega)]
      rfl
theorem kind_good {f : Nat → Int} {n : Nat} {k : Int} (h : Kind f n k) (hG : Coded f n) : k ≠ 0 ∧ k ≠ 5 := by
  obtain ⟨h1, h2, h3⟩ := hG
  rcases h with ⟨_, h⟩ | ⟨_, _, h⟩
  · exact absurd ⟨h1, h2⟩ h
  · have hb := kindOf_bd f n
    refine ⟨by omega, ?_⟩
    rw [h]
    unfold kindOf
    split
    · omega
    · split
      · omega
      · rw [if_neg (by omega)]
        split <;> omega
theorem kind_bad {f : Nat → Int} {n : Nat} {k : Int} (h : Kind f n k) (hB : ¬ Coded f n) : k = 0 ∨ k = 5 := by
  rcases h with ⟨h, _⟩ | ⟨h1, h2, h⟩
  · exact .inl h
  · right
    have hr : 32768 < room f n := by
      by_cases hq : 32768 < room f n
      · exact hq
      · exact absurd ⟨h1, h2, by omega⟩ hB
    have hc : ¬ cnt f n = 0 := fun e => by have := room_of_cnt f n e; omega
    rw [h]
    unfold kindOf
    rw [if_neg hc, if_neg (by omega), if_pos hr]

/-- The sum of count times length. -/
def cost (f c : Nat → Int) : Nat → Int
  | 0 => 0
  | k + 1 => cost f c k + c k * f k
def CountOk (f c : Nat → Int) (i : Nat) : Prop := 0 ≤ c i ∧ c i ≤ 12000 ∧ ¬ (0 < c i ∧ f i = 0)
theorem cost_bd (f c : Nat → Int) (k : Nat) (hf : OkLens f k) (hc : ∀ i, i < k → CountOk f c i) : 0 ≤ cost f c k ∧ cost f c k ≤ 180000 * k := by
  induction k with
  | zero => simp [cost]
  | succ k ih =>
    have h := ih (fun i hi => hf i (by omega)) (fun i hi => hc i (by omega))
    have h1 := hf k (by omega)
    have h2 := hc k (by omega)
    unfold CountOk at h2
    have h3 : 0 ≤ c k * f k := Int.mul_nonneg h2.1 h1.1
    have h4 : c k * f k ≤ 12000 * f k := Int.mul_le_mul_of_nonneg_right h2.2.1 h1.1
    unfold cost
    omega

/-- What CostOf answers. -/
def CostRight (f c : Nat → Int) (n m : Nat) : Prop := n = m ∧ n ≤ 288 ∧ OkLens f n ∧ ∀ i, i < n → CountOk f c i
def CostSays (f c : Nat → Int) (n m : Nat) (x : Int) (b : Bool) : Prop := (b = true ∧ CostRight f c n m ∧ x = cost f c n) ∨ (b = false ∧ x = 0 ∧ ¬ CostRight f c n m)
theorem cost_one {f c : Nat → Int} {n m : Nat} {x x' : Int} {b b' : Bool} (h : CostSays f c n m x b) (h' : CostSays f c n m x' b') : x' = x ∧ b' = b := by
  rcases h with ⟨h1, h2, h3⟩ | ⟨h1, h2, h3⟩ <;> rcases h' with ⟨g1, g2, g3⟩ | ⟨g1, g2, g3⟩
  · exact ⟨by rw [h3, g3], by rw [h1, g1]⟩
  · exact absurd h2 g3
  · exact absurd g2 h3
  · exact ⟨by rw [h2, g2], by rw [h1, g1]⟩

end CodeMath
end Go.Proofs.Ytaajieeenjdnbaa
