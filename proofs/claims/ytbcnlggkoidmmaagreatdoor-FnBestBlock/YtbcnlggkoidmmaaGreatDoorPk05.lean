/-
  Plain facts on codes as beginnings of bits; nothing here speaks of the program.
  How a symbol is taken of a code: found, or no code begins with what was read, or the bits ran out, in plain numbers. Nothing here speaks of the program.
  Runs of lengths, in plain numbers: the Runs of lengths, and the lengths of Runs. Nothing here speaks of the program.
  Lengths and distances by their symbols, in plain numbers: steps that grow. Nothing here speaks of the program.
-/
import Derived.Test.YtbcnlggkoidmmaaGreatDoorPk04
import Derived.WalkKit
namespace Go.Proofs.YtbcnlggkoidmmaaGreatDoor
namespace HitMath
open OutMath CodeMath TakeMath

/-- The number whose bits, the highest first, are the k from bit a on. -/
def hi (s : ByteArray) (a : Nat) : Nat → Int
  | 0 => 0
  | k + 1 => 2 * hi s a k + bit s (a + k)
theorem hi_bd (s : ByteArray) (a : Nat) : ∀ k, 0 ≤ hi s a k ∧ hi s a k < p2 k
  | 0 => by simp [hi, p2]
  | k + 1 => by
    have h := hi_bd s a k
    have hb := bit_01 s (a + k)
    unfold hi
    rw [p2_succ]
    omega
theorem p2_add (a b : Nat) : p2 (a + b) = p2 a * p2 b := by unfold p2; exact Int.pow_add 2 a b
theorem hi_div (s : ByteArray) (a k : Nat) : ∀ m, hi s a (k + m) / p2 m = hi s a k
  | 0 => by rw [p2_zero]; simp
  | m + 1 => by
    have h := hi_div s a k m
    have hb := bit_01 s (a + (k + m))
    rw [p2_succ, ← Int.ediv_ediv_of_nonneg (by omega)]
    have e : hi s a (k + (m + 1)) / 2 = hi s a (k + m) := by
      show (2 * hi s a (k + m) + bit s (a + (k + m))) / 2 = _
      omega
    rw [e, h]

theorem nx_ge (f : Nat → Int) (n t : Nat) : ∀ d, p2 d * nx f n t ≤ nx f n (t + d)
  | 0 => by rw [p2_zero]; simp
  | d + 1 => by
    have h := nx_ge f n t d
    have hc := cntS_bd f ((t + d + 1 : Nat) : Int) n
    have e : nx f n (t + (d + 1)) = 2 * nx f n (t + d) + cntS f ((t + d + 1 : Nat) : Int) n := rfl
    rw [e, p2_succ, Int.mul_assoc]
    omega
theorem code_in {f : Nat → Int} {n i k : Nat} (hi : i < n) (hk : 1 ≤ k) (e : f i = (k : Int)) : 2 * nx f n (k - 1) ≤ codeOf f n i ∧ codeOf f n i < nx f n k := by
  unfold codeOf
  rw [if_neg (by omega), e, Int.toNat_natCast, ← nx_step f n k hk]
  have h1 := cntS_bd f (k : Int) i
  have h2 := cntS_lt f (k : Int) hi e
  omega
theorem code_inj {f : Nat → Int} {n i j : Nat} (_hi : i < n) (_hj : j < n) (hp : 0 < f i) (e : f i = f j) (h : codeOf f n i = codeOf f n j) : i = j := by
  unfold codeOf at h
  rw [if_neg (by omega), if_neg (by omega), e] at h
  rcases Nat.lt_trichotomy i j with q | q | q
  · have := cntS_lt f (f j) q e
    omega
  · exact q
  · have := cntS_lt f (f j) q rfl
    omega
/-- No code begins another one. -/
theorem prefix_free {f : Nat → Int} {n i j k d : Nat} (hi : i < n) (hj : j < n) (hk : 1 ≤ k) (ei : f i = (k : Int)) (ej : f j = ((k + d : Nat) : Int)) (h : codeOf f n j / p2 d = codeOf f n i) : i = j := by
  have hpd := p2_pos d
  rcases Nat.eq_zero_or_pos d with rfl | hd
  · rw [p2_zero, Int.ediv_one] at h
    exact code_inj hi hj (by omega) (by rw [ei, ej]; simp) h.symm
  · exfalso
    have h1 := code_in hi hk ei
    have h2 := code_in hj (show 1 ≤ k + d by omega) ej
    have h3 := nx_ge f n k (d - 1)
    have e2 : k + d - 1 = k + (d - 1) := by omega
    rw [e2] at h2
    have e3 : p2 d = 2 * p2 (d - 1) := by
      have : d = d - 1 + 1 := by omega
      rw [this, p2_succ]
      simp
    have h4 : p2 d * nx f n k ≤ codeOf f n j := by
      rw [e3, Int.mul_assoc]
      omega
    have h5 : nx f n k ≤ codeOf f n j / p2 d := by
      rw [Int.le_ediv_iff_mul_le (by omega), Int.mul_comm]
      exact h4
    omega

/-- The room is the number behind the last code. -/
def part (s : Nat) (x : Int) : Int := if 1 ≤ x ∧ x ≤ (s : Int) then p2 (s - x.toNat) else 0
theorem nx_add (f : Nat → Int) (n : Nat) : ∀ s, nx f (n + 1) s = nx f n s + part s (f n)
  | 0 => by
    show (0 : Int) = 0 + part 0 (f n)
    unfold part
    rw [if_neg (by omega)]
    rfl
  | s + 1 => by
    show 2 * nx f (n + 1) s + (cntS f ((s + 1 : Nat) : Int) n + (if f n = ((s + 1 : Nat) : Int) then 1 else 0)) = 2 * nx f n s + cntS f ((s + 1 : Nat) : Int) n + part (s + 1) (f n)
    rw [nx_add f n s]
    unfold part
    by_cases h1 : 1 ≤ f n ∧ f n ≤ (s : Int)
    · rw [if_pos h1, if_neg (by omega), if_pos (by omega), show s + 1 - (f n).toNat = s - (f n).toNat + 1 by omega, p2_succ]
      omega
    · by_cases h2 : f n = ((s + 1 : Nat) : Int)
      · rw [if_neg h1, if_pos h2, if_pos (by omega), show s + 1 - (f n).toNat = 0 by omega, p2_zero]
        omega
      · rw [if_neg h1, if_neg h2, if_neg (by omega)]
        omega
theorem room_nx (f : Nat → Int) : ∀ n, OkLens f n → room f n = nx f n 15
  | 0, _ => by
    have e : ∀ s, nx f 0 s = 0 := by
      intro s
      induction s with
      | zero => rfl
      | succ s ih => show 2 * nx f 0 s + 0 = 0; omega
    rw [e]
    rfl
  | n + 1, h => by
    have hn := h n (by omega)
    rw [nx_add, ← room_nx f n (fun i hi => h i (by omega))]
    show room f n + (if 0 < f n then p2 (15 - f n).toNat else 0) = room f n + part 15 (f n)
    unfold part
    by_cases hp : 0 < f n
    · rw [if_pos hp, if_pos (by omega), show (15 - f n).toNat = 15 - (f n).toNat by omega]
    · rw [if_neg hp, if_neg (by omega)]
theorem nx_le {f : Nat → Int} {n : Nat} (h : Coded f n) (k : Nat) (hk : k ≤ 15) : nx f n k ≤ p2 k := by
  obtain ⟨_, h2, h3⟩ := h
  rw [room_nx f n h2] at h3
  have h4 := nx_ge f n k (15 - k)
  rw [show k + (15 - k) = 15 by omega] at h4
  have e : p2 15 = p2 (15 - k) * p2 k := by rw [← p2_add, show 15 - k + k = 15 by omega]
  have e2 : p2 15 = 32768 := by decide +kernel
  have hp := p2_pos (15 - k)
  exact Int.le_of_mul_le_mul_left (by omega) (show 0 < p2 (15 - k) by omega)
theorem code_lt {f : Nat → Int} {n i : Nat} (h : Coded f n) (hi : i < n) : 0 ≤ codeOf f n i ∧ codeOf f n i < p2 (f i).toNat := by
  have hok := h.2.1 i hi
  by_cases hp : 0 < f i
  · have h1 := code_in hi (show 1 ≤ (f i).toNat by omega) (show f i = ((f i).toNat : Int) by omega)
    have h2 := nx_le h (f i).toNat (by omega)
    have h3 := (nx_bd f n h.1 ((f i).toNat - 1)).1
    omega
  · unfold codeOf
    rw [if_pos (by omega)]
    have := p2_pos (f i).toNat
    omega

/-- Symbol i, of length k, is what comes next. -/
def Hit (f : Nat → Int) (n : Nat) (s : ByteArray) (a : Nat) (i k : Nat) : Prop := i < n ∧ 1 ≤ k ∧ f i = (k : Int) ∧ codeOf f n i = hi s a k ∧ a + k ≤ 8 * s.size
theorem hit_le {f : Nat → Int} {n : Nat} {s : ByteArray} {a i k j l : Nat} (h : Hit f n s a i k) (h' : Hit f n s a j l) (hkl : k ≤ l) : i = j ∧ k = l := by
  obtain ⟨h1, h2, h3, h4, h5⟩ := h
  obtain ⟨g1, g2, g3, g4, g5⟩ := h'
  obtain ⟨d, rfl⟩ := Nat.exists_eq_add_of_le hkl
  have e : i = j := prefix_free h1 g1 h2 h3 g3 (by rw [g4, h4, hi_div])
  subst e
  exact ⟨rfl, by omega⟩
theorem hit_one {f : Nat → Int} {n : Nat} {s : ByteArray} {a i k j l : Nat} (h : Hit f n s a i k) (h' : Hit f n s a j l) : i = j ∧ k = l := by
  rcases Nat.le_total k l with q | q
  · exact hit_le h h' q
  · have := hit_le h' h q
    exact ⟨this.1.symm, this.2.symm⟩

end HitMath
open OutMath CodeMath TakeMath HitMath

end Go.Proofs.YtbcnlggkoidmmaaGreatDoor

namespace Go.Proofs.YtbcnlggkoidmmaaGreatDoor.WayMath
open OutMath CodeMath TakeMath HitMath

/-- A code begins with the next k bits. -/
def Begins (f : Nat → Int) (n : Nat) (s : ByteArray) (a k : Nat) : Prop := ∃ i, i < n ∧ f i ≠ 0 ∧ (k : Int) ≤ f i ∧ codeOf f n i / p2 (f i - k).toNat = hi s a k
/-- The bits run out, while codes still begin with what was read. -/
def RunsOut (f : Nat → Int) (n : Nat) (s : ByteArray) (a : Nat) : Prop := (∀ i k, ¬ Hit f n s a i k) ∧ ∃ k, a + k = 8 * s.size ∧ ∀ j, j ≤ k → Begins f n s a j
/-- No code begins with what was read. -/
def NoneBegins (f : Nat → Int) (n : Nat) (s : ByteArray) (a : Nat) : Prop := (∀ i k, ¬ Hit f n s a i k) ∧ ∃ k, a + k ≤ 8 * s.size ∧ ¬ Begins f n s a k
theorem out_not {f : Nat → Int} {n : Nat} {s : ByteArray} {a : Nat} (h : RunsOut f n s a) : ¬ NoneBegins f n s a := fun h' => by
  obtain ⟨_, k, hk, hb⟩ := h
  obtain ⟨_, k', hk', hn⟩ := h'
  exact hn (hb k' (by omega))
open Classical in
/-- What comes of a symbol: it and its bits; or 1: no code begins so; or 2: the bits run out. -/
noncomputable def symW (f : Nat → Int) (n : Nat) (s : ByteArray) (a : Nat) : Nat × Nat × Nat :=
  if h : ∃ p : Nat × Nat, Hit f n s a p.1 p.2 then ((Classical.choose h).1, (Classical.choose h).2, 0) else if RunsOut f n s a then (0, 0, 2) else (0, 0, 1)
section
variable {f : Nat → Int} {n : Nat} {s : ByteArray} {a : Nat}
theorem symW_hit {i k : Nat} (h : Hit f n s a i k) : symW f n s a = (i, k, 0) := by
  have hex : ∃ p : Nat × Nat, Hit f n s a p.1 p.2 := ⟨(i, k), h⟩
  unfold symW
  rw [dif_pos hex]
  have h1 := Classical.choose_spec hex
  obtain ⟨e1, e2⟩ := hit_one h1 h
  rw [e1, e2]
theorem symW_out (h : RunsOut f n s a) : symW f n s a = (0, 0, 2) := by
  unfold symW
  rw [dif_neg (fun ⟨p, hp⟩ => h.1 p.1 p.2 hp), if_pos h]
theorem symW_none (h : NoneBegins f n s a) : symW f n s a = (0, 0, 1) := by
  unfold symW
  rw [dif_neg (fun ⟨p, hp⟩ => h.1 p.1 p.2 hp), if_neg (fun k => out_not k h)]
end
/-- What a symbol is at most. -/
theorem symW_small {f : Nat → Int} {n : Nat} {s : ByteArray} {a : Nat} : (symW f n s a).2.2 = 0 ∧ Hit f n s a (symW f n s a).1 (symW f n s a).2.1 ∨ (symW f n s a).2.2 = 2 ∧ RunsOut f n s a ∨ (symW f n s a).2.2 = 1 := by
  by_cases h : ∃ p : Nat × Nat, Hit f n s a p.1 p.2
  · obtain ⟨⟨i, k⟩, h⟩ := h
    rw [symW_hit h]
    exact .inl ⟨rfl, h⟩
  · by_cases h2 : RunsOut f n s a
    · rw [symW_out h2]
      exact .inr (.inl ⟨rfl, h2⟩)
    · right; right
      unfold symW
      rw [dif_neg h, if_neg h2]
end Go.Proofs.YtbcnlggkoidmmaaGreatDoor.WayMath

namespace Go.Proofs.YtbcnlggkoidmmaaGreatDoor.RunsMath

/-- How often x stands from place i on, at most so many times. -/
def sameN (f : Nat → Int) (n : Nat) (x : Int) : Nat → Nat → Nat
  | 0, _ => 0
  | m + 1, i => if i < n ∧ f i = x then 1 + sameN f n x m (i + 1) else 0
theorem same_le (f : Nat → Int) (n : Nat) (x : Int) : ∀ m i, sameN f n x m i ≤ m
  | 0, _ => Nat.le_refl _
  | m + 1, i => by
    have := same_le f n x m (i + 1)
    unfold sameN
    split <;> omega
theorem same_in (f : Nat → Int) (n : Nat) (x : Int) : ∀ m i, i ≤ n → i + sameN f n x m i ≤ n
  | 0, i, h => h
  | m + 1, i, h => by
    unfold sameN
    split
    · rename_i q
      have := same_in f n x m (i + 1) (by omega)
      omega
    · omega
theorem same_all (f : Nat → Int) (n : Nat) (x : Int) : ∀ m i j, j < sameN f n x m i → f (i + j) = x
  | 0, _, j, h => by simp [sameN] at h
  | m + 1, i, j, h => by
    unfold sameN at h
    split at h
    · rename_i q
      cases j with
      | zero => exact q.2
      | succ j =>
        have := same_all f n x m (i + 1) j (by omega)
        rw [show i + (j + 1) = i + 1 + j by omega]
        exact this
    · omega
/-- It is told by that. -/
theorem same_told {f : Nat → Int} {n : Nat} {x : Int} : ∀ {m i k : Nat}, k ≤ m → i + k ≤ n → (∀ j, j < k → f (i + j) = x) → (k = m ∨ i + k = n ∨ f (i + k) ≠ x) → sameN f n x m i = k
  | 0, i, k, h1, _, _, _ => by
    obtain rfl : k = 0 := by omega
    rfl
  | m + 1, i, k, h1, h2, h3, h4 => by
    unfold sameN
    cases k with
    | zero =>
      rw [if_neg]
      rintro ⟨q1, q2⟩
      rcases h4 with h | h | h
      · omega
      · omega
      · exact h q2
    | succ k =>
      rw [if_pos ⟨by omega, h3 0 (by omega)⟩]
      have := same_told (f := f) (n := n) (x := x) (m := m) (i := i + 1) (k := k) (by omega) (by omega) (fun j hj => by rw [show i + 1 + j = i + (j + 1) by omega]; exact h3 (j + 1) (by omega)) (by
        rcases h4 with h | h | h
        · exact .inl (by omega)
        · exact .inr (.inl (by omega))
        · exact .inr (.inr (by rw [show i + 1 + k = i + (k + 1) by omega]; exact h)))
      omega

def zerosAt (f : Nat → Int) (n i : Nat) : Nat := sameN f n 0 138 i
def sameAt (f : Nat → Int) (n i : Nat) : Nat := if i = 0 then 0 else sameN f n (f (i - 1)) 6 i
/-- The Run at place i, and how many lengths it tells. -/
def runAt (f : Nat → Int) (n i : Nat) : (Int × Int) × Nat :=
  if 11 ≤ zerosAt f n i then ((18, (zerosAt f n i : Int) - 11), zerosAt f n i)
  else if 3 ≤ zerosAt f n i then ((17, (zerosAt f n i : Int) - 3), zerosAt f n i)
  else if 3 ≤ sameAt f n i then ((16, (sameAt f n i : Int) - 3), sameAt f n i)
  else ((f i, 0), 1)
theorem zeros_le (f : Nat → Int) (n i : Nat) : zerosAt f n i ≤ 138 := same_le _ _ _ _ _
theorem sameAt_le (f : Nat → Int) (n i : Nat) : sameAt f n i ≤ 6 := by
  unfold sameAt
  split
  · omega
  · exact same_le _ _ _ _ _
theorem runAt_pos (f : Nat → Int) (n i : Nat) : 1 ≤ (runAt f n i).2 := by
  unfold runAt
  split
  · show 1 ≤ zerosAt f n i; omega
  · split
    · show 1 ≤ zerosAt f n i; omega
    · split
      · show 1 ≤ sameAt f n i; omega
      · exact Nat.le_refl _
theorem sameAt_in {f : Nat → Int} {n i : Nat} (h : i ≤ n) : i + sameAt f n i ≤ n := by
  unfold sameAt
  split
  · omega
  · exact same_in _ _ _ _ _ h
theorem runAt_in {f : Nat → Int} {n i : Nat} (h : i < n) : i + (runAt f n i).2 ≤ n := by
  have h1 : i + zerosAt f n i ≤ n := same_in f n 0 138 i (by omega)
  have h2 := sameAt_in (f := f) (show i ≤ n by omega)
  unfold runAt
  split
  · exact h1
  · split
    · exact h1
    · split
      · exact h2
      · exact h
/-- The Runs from place i on. -/
def rest (f : Nat → Int) (n : Nat) (i : Nat) : List (Int × Int) :=
  if i < n then (runAt f n i).1 :: rest f n (i + max 1 (runAt f n i).2) else []
termination_by n - i
decreasing_by omega
theorem rest_more {f : Nat → Int} {n i : Nat} (h : i < n) : rest f n i = (runAt f n i).1 :: rest f n (i + (runAt f n i).2) := by
  rw [rest, if_pos h, Nat.max_eq_right (runAt_pos f n i)]
theorem rest_none {f : Nat → Int} {n i : Nat} (h : ¬ i < n) : rest f n i = [] := by rw [rest, if_neg h]
theorem rest_length (f : Nat → Int) (n : Nat) : ∀ d i, n - i = d → (rest f n i).length ≤ n - i := by
  intro d
  induction d using Nat.strongRecOn with
  | _ d ih =>
    intro i hd
    by_cases h : i < n
    · rw [rest_more h, List.length_cons]
      have h1 := runAt_pos f n i
      have h2 := ih (n - (i + (runAt f n i).2)) (by omega) (i + (runAt f n i).2) rfl
      omega
    · rw [rest_none h]
      exact Nat.zero_le _
/-- Of a symbol how many extra bits it has. -/
def bitsOf (s : Int) : Nat := if s = 16 then 2 else if s = 17 then 3 else if s = 18 then 7 else 0
def Fine (f : Nat → Int) (n : Nat) : Prop := ∀ i, i < n → 0 ≤ f i ∧ f i ≤ 15
theorem runAt_fine {f : Nat → Int} {n i : Nat} (hf : Fine f n) (hi : i < n) : 0 ≤ (runAt f n i).1.2 ∧ (runAt f n i).1.2 < 2 ^ bitsOf (runAt f n i).1.1 := by
  have h1 := zeros_le f n i
  have h2 := sameAt_le f n i
  have h3 := hf i hi
  unfold runAt
  split
  · show 0 ≤ (zerosAt f n i : Int) - 11 ∧ (zerosAt f n i : Int) - 11 < 2 ^ 7
    omega
  · split
    · show 0 ≤ (zerosAt f n i : Int) - 3 ∧ (zerosAt f n i : Int) - 3 < 2 ^ 3
      omega
    · split
      · show 0 ≤ (sameAt f n i : Int) - 3 ∧ (sameAt f n i : Int) - 3 < 2 ^ 2
        omega
      · show (0 : Int) ≤ 0 ∧ (0 : Int) < 2 ^ bitsOf (f i)
        have : bitsOf (f i) = 0 := by unfold bitsOf; rw [if_neg (by omega), if_neg (by omega), if_neg (by omega)]
        rw [this]
        omega
theorem rest_fine {f : Nat → Int} {n : Nat} (hf : Fine f n) : ∀ d i, n - i = d → ∀ r ∈ rest f n i, 0 ≤ r.2 ∧ r.2 < 2 ^ bitsOf r.1 := by
  intro d
  induction d using Nat.strongRecOn with
  | _ d ih =>
    intro i hd r hr
    by_cases h : i < n
    · rw [rest_more h] at hr
      rcases List.mem_cons.mp hr with rfl | hr
      · exact runAt_fine hf h
      · have h1 := runAt_pos f n i
        exact ih (n - (i + (runAt f n i).2)) (by omega) (i + (runAt f n i).2) rfl r hr
    · rw [rest_none h] at hr
      cases hr

/-! The way back. -/
/-- What a Run tells behind some lengths. -/
def tell (out : List Int) (r : Int × Int) : Option (List Int) :=
  if r.1 = 16 then (if 0 ≤ r.2 ∧ r.2 ≤ 3 ∧ 0 < out.length then some (List.replicate (3 + r.2).toNat (out.getD (out.length - 1) 0)) else none)
  else if r.1 = 17 then (if 0 ≤ r.2 ∧ r.2 ≤ 7 then some (List.replicate (3 + r.2).toNat 0) else none)
  else if r.1 = 18 then (if 0 ≤ r.2 ∧ r.2 ≤ 127 then some (List.replicate (11 + r.2).toNat 0) else none)
  else if 0 ≤ r.1 ∧ r.1 ≤ 15 ∧ r.2 = 0 then some [r.1] else none
/-- What Runs tell, of so many lengths. -/
def back (z : Nat) (out : List Int) : List (Int × Int) → Option (List Int)
  | [] => if out.length = z then some out else none
  | r :: R => match tell out r with
    | none => none
    | some more => if out.length + more.length ≤ z then back z (out ++ more) R else none
def lst (f : Nat → Int) (n : Nat) : List Int := (List.range n).map f
theorem lst_length (f : Nat → Int) (n : Nat) : (lst f n).length = n := by simp [lst]
theorem lst_get (f : Nat → Int) (n i : Nat) (h : i < n) : (lst f n).getD i 0 = f i := by
  rw [List.getD_eq_getElem?_getD]
  simp [lst, h]
theorem lst_same (f : Nat → Int) (x : Int) (i : Nat) : ∀ k, (∀ j, j < k → f (i + j) = x) → lst f (i + k) = lst f i ++ List.replicate k x
  | 0, _ => by simp
  | k + 1, h => by
    have e := lst_same f x i k (fun j hj => h j (by omega))
    have e2 : lst f (i + (k + 1)) = lst f (i + k) ++ [f (i + k)] := by
      unfold lst
      rw [show i + (k + 1) = (i + k) + 1 by omega, List.range_succ, List.map_append]
      rfl
    rw [e2, e, h k (by omega), List.append_assoc, List.replicate_succ']
theorem tell_runAt {f : Nat → Int} {n i : Nat} (hf : Fine f n) (hi : i < n) : ∃ more, tell (lst f i) (runAt f n i).1 = some more ∧ lst f (i + (runAt f n i).2) = lst f i ++ more := by
  have h1 := zeros_le f n i
  have h2 := sameAt_le f n i
  have h3 := hf i hi
  have hz : ∀ j, j < zerosAt f n i → f (i + j) = 0 := same_all f n 0 138 i
  unfold runAt
  split
  · rename_i q
    refine ⟨List.replicate (zerosAt f n i) 0, ?_, lst_same f 0 i _ hz⟩
    show tell (lst f i) (18, (zerosAt f n i : Int) - 11) = _
    unfold tell
    rw [if_neg (by show ¬ (18 : Int) = 16; omega), if_neg (by show ¬ (18 : Int) = 17; omega), if_pos rfl, if_pos (by show 0 ≤ (zerosAt f n i : Int) - 11 ∧ (zerosAt f n i : Int) - 11 ≤ 127; omega)]
    show some (List.replicate (11 + ((zerosAt f n i : Int) - 11)).toNat 0) = _
    rw [show (11 + ((zerosAt f n i : Int) - 11)).toNat = zerosAt f n i by omega]
  · split
    · rename_i q
      refine ⟨List.replicate (zerosAt f n i) 0, ?_, lst_same f 0 i _ hz⟩
      show tell (lst f i) (17, (zerosAt f n i : Int) - 3) = _
      unfold tell
      rw [if_neg (by show ¬ (17 : Int) = 16; omega), if_pos rfl, if_pos (by show 0 ≤ (zerosAt f n i : Int) - 3 ∧ (zerosAt f n i : Int) - 3 ≤ 7; omega)]
      show some (List.replicate (3 + ((zerosAt f n i : Int) - 3)).toNat 0) = _
      rw [show (3 + ((zerosAt f n i : Int) - 3)).toNat = zerosAt f n i by omega]
    · split
      · rename_i q
        have hi0 : i ≠ 0 := fun e => by
          rw [e] at q
          simp [sameAt] at q
        have hs : ∀ j, j < sameAt f n i → f (i + j) = f (i - 1) := by
          unfold sameAt
          rw [if_neg hi0]
          exact same_all f n (f (i - 1)) 6 i
        refine ⟨List.replicate (sameAt f n i) (f (i - 1)), ?_, lst_same f _ i _ hs⟩
        show tell (lst f i) (16, (sameAt f n i : Int) - 3) = _
        unfold tell
        rw [if_pos rfl, if_pos (by rw [lst_length]; show 0 ≤ (sameAt f n i : Int) - 3 ∧ (sameAt f n i : Int) - 3 ≤ 3 ∧ 0 < i; omega), lst_length, lst_get f i (i - 1) (by omega)]
        show some (List.replicate (3 + ((sameAt f n i : Int) - 3)).toNat (f (i - 1))) = _
        rw [show (3 + ((sameAt f n i : Int) - 3)).toNat = sameAt f n i by omega]
      · refine ⟨[f i], ?_, lst_same f (f i) i 1 (fun j hj => by rw [show j = 0 by omega]; rfl)⟩
        show tell (lst f i) (f i, 0) = _
        unfold tell
        rw [if_neg (by show ¬ f i = 16; omega), if_neg (by show ¬ f i = 17; omega), if_neg (by show ¬ f i = 18; omega), if_pos ⟨h3.1, h3.2, rfl⟩]
end Go.Proofs.YtbcnlggkoidmmaaGreatDoor.RunsMath

namespace Go.Proofs.YtbcnlggkoidmmaaGreatDoor.StepMath

/-- How many extra bits the step j has, where each k steps have one more. -/
def bitsN (k j : Nat) : Nat := (j - k) / k
/-- The least number of the step j. -/
def fromN (c k : Nat) : Nat → Nat
  | 0 => c
  | j + 1 => fromN c k j + 2 ^ bitsN k j
/-- The last step below m that begins at n or ahead of it. -/
def findN (c k n : Nat) : Nat → Nat
  | 0 => 0
  | m + 1 => if fromN c k m ≤ n then m else findN c k n m
theorem pow_pos2 (j : Nat) : 1 ≤ 2 ^ j := Nat.one_le_two_pow
theorem from_lt (c k j : Nat) : fromN c k j < fromN c k (j + 1) := by
  have := pow_pos2 (bitsN k j)
  show fromN c k j < fromN c k j + 2 ^ bitsN k j
  omega
theorem from_mono (c k : Nat) : ∀ d i, fromN c k i ≤ fromN c k (i + d)
  | 0, _ => Nat.le_refl _
  | d + 1, i => Nat.le_trans (from_mono c k d i) (Nat.le_of_lt (from_lt c k (i + d)))
theorem from_le {c k i j : Nat} (h : i ≤ j) : fromN c k i ≤ fromN c k j := by
  obtain ⟨d, rfl⟩ := Nat.exists_eq_add_of_le h
  exact from_mono c k d i
theorem find_spec {c k n : Nat} (hc : c ≤ n) : ∀ m, 0 < m → findN c k n m < m ∧ fromN c k (findN c k n m) ≤ n ∧ ∀ j, findN c k n m < j → j < m → n < fromN c k j
  | 0, h => by omega
  | m + 1, _ => by
    unfold findN
    split
    · rename_i h
      exact ⟨by omega, h, fun j h1 h2 => by omega⟩
    · rename_i h
      rcases Nat.eq_zero_or_pos m with h0 | h0
      · subst h0
        exact absurd hc h
      · obtain ⟨q1, q2, q3⟩ := find_spec (c := c) (k := k) hc m h0
        refine ⟨by omega, q2, fun j h1 h2 => ?_⟩
        rcases Nat.lt_or_ge j m with h3 | h3
        · exact q3 j h1 h3
        · have : j = m := by omega
          subst this
          omega
/-- The step is told by its ends. -/
theorem find_told {c k n m j : Nat} (h1 : fromN c k j ≤ n) (h2 : n < fromN c k (j + 1)) (hj : j < m) (hc : c ≤ n) : findN c k n m = j := by
  obtain ⟨q1, q2, q3⟩ := find_spec (c := c) (k := k) hc m (by omega)
  rcases Nat.lt_trichotomy (findN c k n m) j with h | h | h
  · have := q3 j h hj
    omega
  · exact h
  · have := from_le (c := c) (k := k) (show j + 1 ≤ findN c k n m from h)
    omega
theorem find_in {c k n m : Nat} (hc : c ≤ n) (hm : n < fromN c k m) : findN c k n m < m ∧ fromN c k (findN c k n m) ≤ n ∧ n < fromN c k (findN c k n m + 1) := by
  have h0 : 0 < m := by
    rcases Nat.eq_zero_or_pos m with h | h
    · subst h
      have : n < c := hm
      omega
    · exact h
  obtain ⟨q1, q2, q3⟩ := find_spec (c := c) (k := k) hc m h0
  refine ⟨q1, q2, ?_⟩
  rcases Nat.lt_or_ge (findN c k n m + 1) m with h | h
  · exact q3 _ (Nat.lt_succ_self _) h
  · have : findN c k n m + 1 = m := by omega
    rw [this]
    exact hm
theorem find_extra {c k n m : Nat} (hc : c ≤ n) (hm : n < fromN c k m) : n - fromN c k (findN c k n m) < 2 ^ bitsN k (findN c k n m) := by
  obtain ⟨_, h1, h2⟩ := find_in hc hm
  have : fromN c k (findN c k n m + 1) = fromN c k (findN c k n m) + 2 ^ bitsN k (findN c k n m) := rfl
  omega
/-! Lengths: steps of 4 from 3 on; the 28th would begin at 259. Distances: steps of 2 from 1 on; the 30th would begin at 32769. -/
theorem len_8 : fromN 3 4 8 = 11 := by decide
theorem len_28 : fromN 3 4 28 = 259 := by decide
theorem dist_4 : fromN 1 2 4 = 5 := by decide
theorem dist_30 : fromN 1 2 30 = 32769 := by decide
theorem len_small : ∀ j, j ≤ 8 → fromN 3 4 j = 3 + j ∧ bitsN 4 j ≤ 1 := by decide
theorem dist_small : ∀ j, j ≤ 4 → fromN 1 2 j = 1 + j ∧ bitsN 2 j ≤ 1 := by decide
theorem len_bits : ∀ j, j < 28 → bitsN 4 j ≤ 5 ∧ (j < 8 → bitsN 4 j = 0) := by decide
theorem dist_bits : ∀ j, j < 30 → bitsN 2 j ≤ 13 ∧ (j < 4 → bitsN 2 j = 0) := by decide
/-- The symbol of a length, its extra bits, and what they are. -/
def lenCode (n : Nat) : Nat × Nat × Nat := if n < 258 then (257 + findN 3 4 n 28, bitsN 4 (findN 3 4 n 28), n - fromN 3 4 (findN 3 4 n 28)) else (285, 0, 0)
/-- Of a symbol its extra bits and the least length. -/
def lenBits (s : Nat) : Nat × Nat := if s = 285 then (0, 258) else (bitsN 4 (s - 257), fromN 3 4 (s - 257))
def distCode (n : Nat) : Nat × Nat × Nat := (findN 1 2 n 30, bitsN 2 (findN 1 2 n 30), n - fromN 1 2 (findN 1 2 n 30))
def distBits (s : Nat) : Nat × Nat := (bitsN 2 s, fromN 1 2 s)
/-- What the functions answer, at every number. -/
def LengthCodeOf (n : Int) : Int × Int × Int := if 3 ≤ n ∧ n ≤ 258 then (((lenCode n.toNat).1 : Int), ((lenCode n.toNat).2.1 : Int), ((lenCode n.toNat).2.2 : Int)) else (0, 0, 0)
def DistCodeOf (n : Int) : Int × Int × Int := if 1 ≤ n ∧ n ≤ 32768 then (((distCode n.toNat).1 : Int), ((distCode n.toNat).2.1 : Int), ((distCode n.toNat).2.2 : Int)) else (0, 0, 0)
def LengthOfR (s x : Int) : Int × Bool := if (257 ≤ s ∧ s ≤ 285) ∧ 0 ≤ x ∧ x < 2 ^ (lenBits s.toNat).1 then (((lenBits s.toNat).2 : Int) + x, true) else (0, false)
def DistOfR (s x : Int) : Int × Bool := if (0 ≤ s ∧ s ≤ 29) ∧ 0 ≤ x ∧ x < 2 ^ (distBits s.toNat).1 then (((distBits s.toNat).2 : Int) + x, true) else (0, false)

theorem len_fact {n : Nat} (h3 : 3 ≤ n) (h : n < 258) : findN 3 4 n 28 < 28 ∧ fromN 3 4 (findN 3 4 n 28) ≤ n ∧ n - fromN 3 4 (findN 3 4 n 28) < 2 ^ bitsN 4 (findN 3 4 n 28) := by
  have h1 := len_28
  have h2 := find_in (c := 3) (k := 4) (n := n) (m := 28) h3 (by omega)
  exact ⟨h2.1, h2.2.1, find_extra h3 (by omega)⟩
theorem dist_fact {n : Nat} (h1 : 1 ≤ n) (h : n ≤ 32768) : findN 1 2 n 30 < 30 ∧ fromN 1 2 (findN 1 2 n 30) ≤ n ∧ n - fromN 1 2 (findN 1 2 n 30) < 2 ^ bitsN 2 (findN 1 2 n 30) := by
  have h2 := dist_30
  have h3 := find_in (c := 1) (k := 2) (n := n) (m := 30) h1 (by omega)
  exact ⟨h3.1, h3.2.1, find_extra h1 (by omega)⟩
theorem pow_cast (m : Nat) : ((2 ^ m : Nat) : Int) = (2 : Int) ^ m := by
  induction m with
  | zero => rfl
  | succ m ih => rw [Nat.pow_succ, Int.pow_succ, Int.natCast_mul, ih]; rfl

/-- Each length comes back from its symbol and extra bits. -/
theorem len_back {n : Int} (h3 : 3 ≤ n) (h : n ≤ 258) : LengthOfR (LengthCodeOf n).1 (LengthCodeOf n).2.2 = (n, true) ∧ 0 ≤ (LengthCodeOf n).2.2 ∧ (LengthCodeOf n).2.2 < 2 ^ (LengthCodeOf n).2.1.toNat ∧ 257 ≤ (LengthCodeOf n).1 ∧ (LengthCodeOf n).1 ≤ 285 ∧ 0 ≤ (LengthCodeOf n).2.1 ∧ (LengthCodeOf n).2.1 ≤ 5 := by
  obtain ⟨m, rfl⟩ := Int.eq_ofNat_of_zero_le (show 0 ≤ n by omega)
  unfold LengthCodeOf
  rw [if_pos ⟨h3, h⟩, Int.toNat_natCast]
  unfold lenCode
  split
  · rename_i hlt
    obtain ⟨f1, f2, f3⟩ := len_fact (show 3 ≤ m by omega) hlt
    have f4 := len_bits _ f1
    have f5 := pow_cast (bitsN 4 (findN 3 4 m 28))
    have e1 : ((257 + findN 3 4 m 28 : Nat) : Int).toNat = 257 + findN 3 4 m 28 := Int.toNat_natCast _
    have e2 : lenBits (257 + findN 3 4 m 28) = (bitsN 4 (findN 3 4 m 28), fromN 3 4 (findN 3 4 m 28)) := by
      unfold lenBits
      rw [if_neg (by omega), Nat.add_sub_cancel_left]
    refine ⟨?_, ?_, ?_, ?_, ?_, ?_, ?_⟩
    · show LengthOfR ((257 + findN 3 4 m 28 : Nat) : Int) ((m - fromN 3 4 (findN 3 4 m 28) : Nat) : Int) = _
      unfold LengthOfR
      rw [e1, e2, if_pos ⟨by omega, by omega, by show ((m - fromN 3 4 (findN 3 4 m 28) : Nat) : Int) < 2 ^ bitsN 4 (findN 3 4 m 28); omega⟩]
      show (((fromN 3 4 (findN 3 4 m 28) : Nat) : Int) + ((m - fromN 3 4 (findN 3 4 m 28) : Nat) : Int), true) = _
      congr 1
      omega
    · show (0 : Int) ≤ ((m - fromN 3 4 (findN 3 4 m 28) : Nat) : Int)
      omega
    · show ((m - fromN 3 4 (findN 3 4 m 28) : Nat) : Int) < 2 ^ ((bitsN 4 (findN 3 4 m 28) : Nat) : Int).toNat
      rw [Int.toNat_natCast]
      omega
    · show (257 : Int) ≤ ((257 + findN 3 4 m 28 : Nat) : Int)
      omega
    · show ((257 + findN 3 4 m 28 : Nat) : Int) ≤ 285
      omega
    · show (0 : Int) ≤ ((bitsN 4 (findN 3 4 m 28) : Nat) : Int)
      omega
    · show ((bitsN 4 (findN 3 4 m 28) : Nat) : Int) ≤ 5
      omega
  · rename_i hlt
    obtain rfl : m = 258 := by omega
    refine ⟨by decide, by decide, by decide, by decide, by decide, by decide, by decide⟩
theorem dist_back {n : Int} (h1 : 1 ≤ n) (h : n ≤ 32768) : DistOfR (DistCodeOf n).1 (DistCodeOf n).2.2 = (n, true) ∧ 0 ≤ (DistCodeOf n).2.2 ∧ (DistCodeOf n).2.2 < 2 ^ (DistCodeOf n).2.1.toNat ∧ 0 ≤ (DistCodeOf n).1 ∧ (DistCodeOf n).1 ≤ 29 ∧ 0 ≤ (DistCodeOf n).2.1 ∧ (DistCodeOf n).2.1 ≤ 13 := by
  obtain ⟨m, rfl⟩ := Int.eq_ofNat_of_zero_le (show 0 ≤ n by omega)
  unfold DistCodeOf
  rw [if_pos ⟨h1, h⟩, Int.toNat_natCast]
  unfold distCode
  obtain ⟨f1, f2, f3⟩ := dist_fact (show 1 ≤ m by omega) (show m ≤ 32768 by omega)
  have f4 := dist_bits _ f1
  have f5 := pow_cast (bitsN 2 (findN 1 2 m 30))
  refine ⟨?_, ?_, ?_, ?_, ?_, ?_, ?_⟩
  · show DistOfR ((findN 1 2 m 30 : Nat) : Int) ((m - fromN 1 2 (findN 1 2 m 30) : Nat) : Int) = _
    unfold DistOfR
    rw [Int.toNat_natCast, if_pos ⟨by omega, by omega, by show ((m - fromN 1 2 (findN 1 2 m 30) : Nat) : Int) < 2 ^ bitsN 2 (findN 1 2 m 30); omega⟩]
    show (((fromN 1 2 (findN 1 2 m 30) : Nat) : Int) + ((m - fromN 1 2 (findN 1 2 m 30) : Nat) : Int), true) = _
    congr 1
    omega
  · show (0 : Int) ≤ ((m - fromN 1 2 (findN 1 2 m 30) : Nat) : Int)
    omega
  · show ((m - fromN 1 2 (findN 1 2 m 30) : Nat) : Int) < 2 ^ ((bitsN 2 (findN 1 2 m 30) : Nat) : Int).toNat
    rw [Int.toNat_natCast]
    omega
  · show (0 : Int) ≤ ((findN 1 2 m 30 : Nat) : Int)
    omega
  · show ((findN 1 2 m 30 : Nat) : Int) ≤ 29
    omega
  · show (0 : Int) ≤ ((bitsN 2 (findN 1 2 m 30) : Nat) : Int)
    omega
  · show ((bitsN 2 (findN 1 2 m 30) : Nat) : Int) ≤ 13
    omega
end Go.Proofs.YtbcnlggkoidmmaaGreatDoor.StepMath
