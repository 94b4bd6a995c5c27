/-
  Plain facts on the lists of short codes: they are small. Nothing here speaks of the program.
-/
import Derived.Test.YtpecmolloohklaaPackageMath
import Derived.Test.YtpecmolloohklaaPackageSyms
import Derived.Test.YtpecmolloohklaaNextMath
import Derived.WalkKit
namespace Go.Proofs.Ytpecmolloohklaa
namespace PackageMath

theorem pairs_mem : ∀ (l : List Coin) (p : Coin), p ∈ pairs l → ∃ a b, a ∈ l ∧ b ∈ l ∧ p = pairOf a b
  | [], p, h => by simp [pairs] at h
  | [_], p, h => by simp [pairs] at h
  | a :: b :: l, p, h => by
    rcases List.mem_cons.mp h with rfl | h
    · exact ⟨a, b, by simp, by simp, rfl⟩
    · obtain ⟨c, d, h1, h2, h3⟩ := pairs_mem l p h
      exact ⟨c, d, by simp [h1], by simp [h2], h3⟩
/-- Weights of 12000 at most, lists of one symbol, doubled k times. -/
def SmallK (k : Nat) (x : Coin) : Prop := 0 ≤ x.1 ∧ x.1 ≤ 12000 * 2 ^ k ∧ 1 ≤ x.2.length ∧ x.2.length ≤ 2 ^ k
theorem lists_small {X : List Coin} (h : ∀ x ∈ X, SmallK 0 x) : ∀ k, ∀ x ∈ lists X k, SmallK k x
  | 0, x, hx => h x hx
  | k + 1, x, hx => by
    have e : (2 : Int) ^ (k + 1) = 2 ^ k * 2 := Int.pow_succ _ _
    have e2 : (2 : Nat) ^ (k + 1) = 2 ^ k * 2 := Nat.pow_succ _ _
    have q : (1 : Int) ≤ 2 ^ k := Int.pow_pos (by omega)
    have q2 : 1 ≤ (2 : Nat) ^ k := Nat.pow_pos (by omega)
    rcases merge_mem _ _ _ hx with hx | hx
    · obtain ⟨h1, h2, h3, h4⟩ := h x hx
      refine ⟨h1, ?_, h3, ?_⟩
      · rw [e]
        have : (2 : Int) ^ 0 = 1 := rfl
        omega
      · rw [e2]
        have : (2 : Nat) ^ 0 = 1 := rfl
        omega
    · obtain ⟨a, b, ha, hb, rfl⟩ := pairs_mem _ _ hx
      obtain ⟨a1, a2, a3, a4⟩ := lists_small h k a ha
      obtain ⟨b1, b2, b3, b4⟩ := lists_small h k b hb
      refine ⟨?_, ?_, ?_, ?_⟩
      · show 0 ≤ a.1 + b.1
        omega
      · show a.1 + b.1 ≤ _
        rw [e]
        omega
      · show 1 ≤ (a.2 ++ b.2).length
        rw [List.length_append]
        omega
      · show (a.2 ++ b.2).length ≤ _
        rw [List.length_append, e2]
        omega
theorem lists_short (X : List Coin) : ∀ k, (lists X k).length ≤ 2 * X.length
  | 0 => by show X.length ≤ _; omega
  | k + 1 => by
    have := lists_short X k
    rw [lists_length]
    omega
theorem first_small {c : Nat → Int} {n : Nat} (h : ∀ i, i < n → 0 ≤ c i ∧ c i ≤ 12000) : ∀ x ∈ firstL c n, SmallK 0 x := by
  intro x hx
  obtain ⟨i, hi, _, rfl⟩ := first_mem n x hx
  have := h i hi
  exact ⟨this.1, by show c i ≤ 12000 * 2 ^ 0; simp; omega, by simp, by simp⟩
theorem smallK_bd {k : Nat} {x : Coin} (hk : k ≤ 14) (h : SmallK k x) : 0 ≤ x.1 ∧ x.1 ≤ 1000000000 ∧ 1 ≤ x.2.length ∧ x.2.length ≤ 1000000 := by
  obtain ⟨h1, h2, h3, h4⟩ := h
  have p1 : (2 : Nat) ^ k ≤ 2 ^ 14 := Nat.pow_le_pow_right (by omega) hk
  have p2 : (2 : Int) ^ k ≤ 16384 := by
    have e : ((2 ^ k : Nat) : Int) = (2 : Int) ^ k := by norm_cast
    have : (2 : Nat) ^ 14 = 16384 := rfl
    omega
  have : (2 : Nat) ^ 14 = 16384 := rfl
  omega
/-- The symbols of a list of items all lie below n. -/
theorem lists_syms {X : List Coin} {n : Nat} (h : ∀ x ∈ X, ∀ s ∈ x.2, s < n) : ∀ k, ∀ x ∈ lists X k, ∀ s ∈ x.2, s < n
  | 0, x, hx => h x hx
  | k + 1, x, hx => by
    rcases merge_mem _ _ _ hx with hx | hx
    · exact h x hx
    · obtain ⟨a, b, ha, hb, rfl⟩ := pairs_mem _ _ hx
      intro s hs
      have hs' : s ∈ a.2 ++ b.2 := hs
      rcases List.mem_append.mp hs' with hs | hs
      · exact lists_syms h k a ha s hs
      · exact lists_syms h k b hb s hs
theorem first_syms {c : Nat → Int} {n : Nat} : ∀ x ∈ firstL c n, ∀ s ∈ x.2, s < n := by
  intro x hx s hs
  obtain ⟨i, hi, _, rfl⟩ := first_mem n x hx
  have : s = i := by simpa using hs
  omega

theorem cN_one (p : Nat → Bool) : ∀ n a, a < n → p a = true → 1 ≤ cN p n
  | 0, a, h, _ => by omega
  | n + 1, a, h, ha => by
    show 1 ≤ cN p n + (if p n = true then 1 else 0)
    by_cases e : a = n
    · subst e
      rw [if_pos ha]
      omega
    · have := cN_one p n a (by omega) ha
      omega
theorem cN_two (p : Nat → Bool) : ∀ n a b, a < n → b < n → a ≠ b → p a = true → p b = true → 2 ≤ cN p n
  | 0, a, b, h, _, _, _, _ => by omega
  | n + 1, a, b, ha, hb, hne, h1, h2 => by
    show 2 ≤ cN p n + (if p n = true then 1 else 0)
    by_cases e : a = n
    · subst e
      have := cN_one p a b (by omega) h2
      rw [if_pos h1]
      omega
    · by_cases e2 : b = n
      · subst e2
        have := cN_one p b a (by omega) h1
        rw [if_pos h2]
        omega
      · have := cN_two p n a b (by omega) (by omega) hne h1 h2
        omega
/-- How many of the first k are above 0. -/
def posN (f : Nat → Int) : Nat → Nat := cN fun i => decide (f i ≠ 0)
/-- What is limited: lengths of so many counts. -/
def LimitRight (f : Nat → Int) (n : Nat) (z : Int) : Prop := n ≤ 288 ∧ 1 ≤ z ∧ z ≤ 15 ∧ (∀ i, i < n → 0 ≤ f i ∧ f i ≤ 12000) ∧ (posN f n : Int) ≤ 2 ^ z.toNat
/-- The lengths. -/
def limLen (f : Nat → Int) (n : Nat) (z : Int) : Nat → Int := fun i => if posN f n = 0 then 0 else if posN f n = 1 then (if f i = 0 then 0 else 1) else lenS f n (z.toNat - 1) i

theorem lim_none {f : Nat → Int} {n : Nat} {z : Int} (h : posN f n = 0) (i : Nat) : (0 : Int) = limLen f n z i := by
  unfold limLen
  rw [if_pos h]
theorem lim_one {f : Nat → Int} {n s : Nat} {z : Int} (h : posN f n = 1) (hs : s < n) (hfs : f s ≠ 0) (i : Nat) (hi : i < n) : (if i = s then (1 : Int) else 0) = limLen f n z i := by
  have hl : limLen f n z i = if f i = 0 then 0 else 1 := by
    unfold limLen
    rw [if_neg (show ¬ posN f n = 0 by omega), if_pos h]
  rw [hl]
  by_cases e : i = s
  · subst e
    rw [if_pos rfl, if_neg hfs]
  · rw [if_neg e]
    by_cases hz : f i = 0
    · rw [if_pos hz]
    · exfalso
      have := cN_two (fun i => decide (f i ≠ 0)) n i s hi hs e (by simpa using hz) (by simpa using hfs)
      have h' : cN (fun i => decide (f i ≠ 0)) n = 1 := h
      omega
theorem lim_more {f : Nat → Int} {n z : Nat} (h : 2 ≤ posN f n) (i : Nat) : sm (ct i) ((lists (firstL f n) (z - 1)).take (2 * posN f n - 2)) = limLen f n (z : Int) i := by
  unfold limLen
  rw [if_neg (by omega), if_neg (by omega), Int.toNat_natCast]
  unfold lenS
  rw [first_length]
  rfl
/-- One symbol more is counted. -/
theorem ct_here (L : List Coin) (i k : Nat) (_hi : i < L.length) (hk : k < (L.getD i (0, [])).2.length) (s : Nat) (hs : s = (L.getD i (0, [])).2.getD k 0) (q : Nat) :
    (if q = s then (sm (ct s) (L.take i) + ((((L.getD i (0, [])).2.take k).count s : Nat) : Int)) + 1 else sm (ct q) (L.take i) + ((((L.getD i (0, [])).2.take k).count q : Nat) : Int)) = sm (ct q) (L.take i) + ((((L.getD i (0, [])).2.take (k + 1)).count q : Nat) : Int) := by
  have e : (L.getD i (0, [])).2.take (k + 1) = (L.getD i (0, [])).2.take k ++ [s] := by
    subst hs
    generalize (L.getD i (0, [])).2 = ps at hk ⊢
    rw [List.take_succ_eq_append_getElem hk, List.getD_eq_getElem?_getD, List.getElem?_eq_getElem hk]
    rfl
  rw [e, List.count_append]
  by_cases h : q = s
  · subst h
    rw [if_pos rfl]
    simp
    omega
  · rw [if_neg h]
    have : ([s] : List Nat).count q = 0 := List.count_eq_zero.mpr (by simpa using h)
    omega
theorem ct_done (L : List Coin) (i : Nat) (hi : i < L.length) (q : Nat) : sm (ct q) (L.take i) + ((((L.getD i (0, [])).2.take (L.getD i (0, [])).2.length).count q : Nat) : Int) = sm (ct q) (L.take (i + 1)) := by
  rw [List.take_of_length_le (Nat.le_refl _)]
  rw [sm_take (ct q) L i (by omega), sm_take (ct q) L (i + 1) (by omega)]
  rfl

end PackageMath
end Go.Proofs.Ytpecmolloohklaa
