/-
  How a symbol is taken of a code: found, or no code begins with what was read, or the bits ran out, in plain numbers. Nothing here speaks of the program.
-/
import Derived.Test.YtaajieeenjdnbaaCodeMath
import Derived.Test.YtaajieeenjdnbaaTakeMath
import Derived.Test.YtaajieeenjdnbaaHitMath
namespace Go.Proofs.Ytaajieeenjdnbaa.WayMath
open OutMath CodeMath TakeMath HitMath

/-- A code begins with the next k bits. -/
def Begins (f : Nat → Int) (n : Nat) (s : ByteArray) (a k : Nat) : Prop := ∃ i, i < n ∧ f i ≠ 0 ∧ (k : Int) ≤ f i ∧ codeOf f n i / p2 (f i - k).toNat = hi s a k
/-- The bits run out, while codes still begin with what was read. -/
def RunsOut (f : Nat → Int) (n : Nat) (s : ByteArray) (a : Nat) : Prop := (∀ i k, ¬ Hit f n s a i k) ∧ ∃ k, a + k = 8 * s.size ∧ ∀ j, j ≤ k → Begins f n s a j
/-- No code begins with what was read. -/
def NoneBegins (f : Nat → Int) (n : Nat) (s : ByteArray) (a : Nat) : Prop := (∀ i k, ¬ Hit f n s a i k) ∧ ∃ k, a + k ≤ 8 * s.size ∧ ¬ Begins f n s a k
theorem out_not {f : Nat → Int} {n : Nat} {s : ByteArray} {a : Nat} (h : RunsOut f n s a) : ¬ NoneBegins f n s a := fun h' => by
  obtain ⟨_, k, hk, hb⟩ := h
  obtain ⟨_, k', hk', hn⟩ := h'
  exact hn (hb k' (by omega))
open Classical in
/-- What comes of a symbol: it and its bits; or 1: no code begins so; or 2: the bits run out. -/
noncomputable def symW (f : Nat → Int) (n : Nat) (s : ByteArray) (a : Nat) : Nat × Nat × Nat :=
  if h : ∃ p : Nat × Nat, Hit f n s a p.1 p.2 then ((Classical.choose h).1, (Classical.choose h).2, 0) else if RunsOut f n s a then (0, 0, 2) else (0, 0, 1)
section
variable {f : Nat → Int} {n : Nat} {s : ByteArray} {a : Nat}
theorem symW_hit {i k : Nat} (h : Hit f n s a i k) : symW f n s a = (i, k, 0) := by
  have hex : ∃ p : Nat × Nat, Hit f n s a p.1 p.2 := ⟨(i, k), h⟩
  unfold symW
  rw [dif_pos hex]
  have h1 := Classical.choose_spec hex
  obtain ⟨e1, e2⟩ := hit_one h1 h
  rw [e1, e2]
theorem symW_out (h : RunsOut f n s a) : symW f n s a = (0, 0, 2) := by
  unfold symW
  rw [dif_neg (fun ⟨p, hp⟩ => h.1 p.1 p.2 hp), if_pos h]
theorem symW_none (h : NoneBegins f n s a) : symW f n s a = (0, 0, 1) := by
  unfold symW
  rw [dif_neg (fun ⟨p, hp⟩ => h.1 p.1 p.2 hp), if_neg (fun k => out_not k h)]
/-- A hit begins at every size. -/
theorem hit_begins {i k j : Nat} (h : Hit f n s a i k) (hj : j ≤ k) : Begins f n s a j := by
  obtain ⟨h1, h2, h3, h4, _⟩ := h
  refine ⟨i, h1, by omega, by omega, ?_⟩
  obtain ⟨d, rfl⟩ := Nat.exists_eq_add_of_le hj
  have e : (f i - (j : Int)).toNat = d := by omega
  rw [e, h4]
  exact hi_div s a j d
theorem begins_less {k j : Nat} (h : Begins f n s a k) (hj : j ≤ k) (_hc : ∀ i, 0 ≤ codeOf f n i) : Begins f n s a j := by
  obtain ⟨i, h1, h2, h3, h4⟩ := h
  refine ⟨i, h1, h2, by omega, ?_⟩
  obtain ⟨d, rfl⟩ := Nat.exists_eq_add_of_le hj
  have e : (f i - (j : Int)).toNat = (f i - ((j + d : Nat) : Int)).toNat + d := by omega
  rw [e, p2_add, ← Int.ediv_ediv_of_nonneg (Int.le_of_lt (p2_pos _)), h4]
  exact hi_div s a j d
end
/-- What a symbol is at most. -/
theorem symW_small {f : Nat → Int} {n : Nat} {s : ByteArray} {a : Nat} : (symW f n s a).2.2 = 0 ∧ Hit f n s a (symW f n s a).1 (symW f n s a).2.1 ∨ (symW f n s a).2.2 = 2 ∧ RunsOut f n s a ∨ (symW f n s a).2.2 = 1 := by
  by_cases h : ∃ p : Nat × Nat, Hit f n s a p.1 p.2
  · obtain ⟨⟨i, k⟩, h⟩ := h
    rw [symW_hit h]
    exact .inl ⟨rfl, h⟩
  · by_cases h2 : RunsOut f n s a
    · rw [symW_out h2]
      exact .inr (.inl ⟨rfl, h2⟩)
    · right; right
      unfold symW
      rw [dif_neg h, if_neg h2]
end Go.Proofs.Ytaajieeenjdnbaa.WayMath
