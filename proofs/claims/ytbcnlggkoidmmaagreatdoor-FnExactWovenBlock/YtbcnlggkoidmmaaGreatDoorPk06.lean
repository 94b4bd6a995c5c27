/-
  Plain facts on lengths that stay whole; nothing here speaks of the program.
  Plain facts on short codes, as the law FnPackage asks for them.
  More plain facts on short codes: the other lengths that the law FnPackage lays out.
  Runs of lengths, in plain numbers: the Runs of lengths, and the lengths of Runs. Nothing here speaks of the program.
  Plain facts on codes as beginnings of bits; nothing here speaks of the program.
  How a symbol is taken of a code: found, or no code begins with what was read, or the bits ran out, in plain numbers. Nothing here speaks of the program.
  Unpacking, in plain numbers: what comes of a packed text, or which code is met first. Nothing here speaks of the program.
  A list's length when what is 0 at its end is left out; tokens that are all right. Nothing here speaks of the program.
  How often each symbol of tokens is met (chapter 9). Nothing here speaks of the program.
  What the program's TokenLengths is to answer.
-/
import Derived.Test.YtbcnlggkoidmmaaGreatDoorPk01
import Derived.Test.YtbcnlggkoidmmaaGreatDoorPk02
import Derived.Test.YtbcnlggkoidmmaaGreatDoorPk05
import Derived.Test.YtbcnlggkoidmmaaGreatDoorPk03
import Derived.Test.YtbcnlggkoidmmaaGreatDoorPk04
import Derived.Test.YtbcnlggkoidmmaaGreatDoorRows
import Derived.WalkKit
namespace Go.Proofs.YtbcnlggkoidmmaaGreatDoor
namespace RoomMath
open OutMath CodeMath

/-- Rooms of turned lengths. -/
def slot (z : Int) : Int := if 0 < z then p2 (15 - z).toNat else 0
theorem room_upd (f : Nat → Int) (k : Nat) (z : Int) : ∀ n, k < n → room (fun i => if i = k then z else f i) n = room f n - slot (f k) + slot z
  | 0, h => absurd h (Nat.not_lt_zero k)
  | n + 1, h => by
    have same : ∀ m, m ≤ k → room (fun i => if i = k then z else f i) m = room f m := by
      intro m hm
      induction m with
      | zero => rfl
      | succ m ih =>
        show room (fun i => if i = k then z else f i) m + (if 0 < (if m = k then z else f m) then p2 (15 - (if m = k then z else f m)).toNat else 0) = room f m + (if 0 < f m then p2 (15 - f m).toNat else 0)
        rw [ih (by omega), if_neg (show ¬ m = k by omega)]
    show room (fun i => if i = k then z else f i) n + (if 0 < (if n = k then z else f n) then p2 (15 - (if n = k then z else f n)).toNat else 0) = room f n + (if 0 < f n then p2 (15 - f n).toNat else 0) - slot (f k) + slot z
    by_cases e : n = k
    · subst e
      rw [same n (Nat.le_refl n), if_pos rfl]
      unfold slot
      omega
    · rw [room_upd f k z n (by omega), if_neg e]
      omega
/-- All lengths are there, and they are full. -/
def Whole (f : Nat → Int) (n : Nat) : Prop := (∀ i, i < n → 1 ≤ f i ∧ f i ≤ 15) ∧ room f n = 32768
end RoomMath
end Go.Proofs.YtbcnlggkoidmmaaGreatDoor

namespace Go.Proofs.YtbcnlggkoidmmaaGreatDoor
open OutMath CodeMath PackageMath

theorem two_split {z l : Nat} (hz : z ≤ 15) (hl : l ≤ z) : (2 : Int) ^ (15 - l) = 2 ^ (15 - z) * 2 ^ (z - l) := by
  rw [← Int.pow_add]
  congr 1
  omega
theorem room_scale (c l : Nat → Int) (z : Nat) (hz : z ≤ 15) : ∀ n : Nat, (∀ i, i < n → c i = 0 → l i = 0) → (∀ i, i < n → c i ≠ 0 → 1 ≤ l i ∧ l i ≤ (z : Int)) → room l n = 2 ^ (15 - z) * sumTo (fun i => if c i = 0 then 0 else (2 : Int) ^ (z - (l i).toNat)) n
  | 0, _, _ => by simp [room, sumTo]
  | n + 1, h0, h1 => by
    have h := room_scale c l z hz n (fun i hi => h0 i (by omega)) (fun i hi => h1 i (by omega))
    show room l n + (if 0 < l n then p2 (15 - l n).toNat else 0) = _ * (sumTo _ n + (if c n = 0 then 0 else (2 : Int) ^ (z - (l n).toNat)))
    rw [Int.mul_add, h]
    congr 1
    by_cases e : c n = 0
    · rw [if_pos e, if_neg (by rw [h0 n (by omega) e]; omega), Int.mul_zero]
    · have h2 := h1 n (by omega) e
      rw [if_neg e, if_pos (by omega), ← two_split hz (by omega)]
      unfold p2
      congr 1
      omega
section
variable {f : Nat → Int} {n : Nat} {z : Int}
theorem lim_pack (hR : LimitRight f n z) (h2 : 2 ≤ posN f n) :
    (∀ i, i < n → (f i = 0 → limLen f n z i = 0) ∧ (f i ≠ 0 → 1 ≤ limLen f n z i ∧ limLen f n z i ≤ z)) ∧
      sumTo (fun i => if f i = 0 then 0 else (2 : Int) ^ (z.toNat - (limLen f n z i).toNat)) n = 2 ^ z.toNat ∧
      (∀ l' : Nat → Int, (∀ i, i < n → f i ≠ 0 → 0 ≤ l' i ∧ l' i ≤ z) → sumTo (fun i => if f i = 0 then 0 else (2 : Int) ^ (z.toNat - (l' i).toNat)) n ≤ 2 ^ z.toNat →
        sumTo (fun i => f i * limLen f n z i) n ≤ sumTo (fun i => f i * l' i) n) := by
  obtain ⟨_, hz1, hz2, hf, hp⟩ := hR
  have e : limLen f n z = lenS f n (z.toNat - 1) := by
    funext i
    unfold limLen
    rw [if_neg (by omega), if_neg (by omega)]
  have hl : (firstL f n).length = posN f n := first_length f n
  have eK : z.toNat - 1 + 1 = z.toNat := by omega
  obtain ⟨_, g1, g2, g3⟩ := package_syms (c := f) (N := n) (fun i hi => (hf i hi).1) (z.toNat - 1) (by omega) (by rw [hl, eK]; exact hp)
  have ez : ((z.toNat - 1 : Nat) : Int) + 1 = z := by omega
  rw [ez] at g1 g3
  rw [eK] at g2 g3
  rw [e]
  exact ⟨g1, g2, g3⟩
theorem lim_shape (hR : LimitRight f n z) (i : Nat) (hi : i < n) : (f i = 0 → limLen f n z i = 0) ∧ (f i ≠ 0 → 1 ≤ limLen f n z i ∧ limLen f n z i ≤ z) := by
  by_cases h2 : 2 ≤ posN f n
  · exact (lim_pack hR h2).1 i hi
  · have hz := hR.2.1
    by_cases p0 : posN f n = 0
    · have q : ¬ f i ≠ 0 := fun h => by
        have := cN_one (fun i => decide (f i ≠ 0)) n i hi (by simpa using h)
        have p0' : cN (fun i => decide (f i ≠ 0)) n = 0 := p0
        omega
      exact ⟨fun _ => (lim_none p0 i).symm, fun h => absurd h q⟩
    · have e : limLen f n z i = if f i = 0 then 0 else 1 := by
        unfold limLen
        rw [if_neg p0, if_pos (by omega)]
      rw [e]
      refine ⟨fun h => if_pos h, fun h => ?_⟩
      rw [if_neg h]
      omega
theorem lim_whole (hR : LimitRight f n z) (h2 : 2 ≤ posN f n) : room (limLen f n z) n = 32768 := by
  have hs := lim_shape hR
  obtain ⟨_, g2, _⟩ := lim_pack hR h2
  obtain ⟨_, hz1, hz2, _⟩ := hR
  rw [room_scale f _ z.toNat (by omega) n (fun i hi => (hs i hi).1) (fun i hi h => by have := (hs i hi).2 h; omega), g2, ← Int.pow_add, show 15 - z.toNat + z.toNat = 15 by omega]
  decide
end

end Go.Proofs.YtbcnlggkoidmmaaGreatDoor

namespace Go.Proofs.YtbcnlggkoidmmaaGreatDoor
open OutMath CodeMath PackageMath

theorem room_up (f : Nat → Int) (a : Nat) : ∀ d : Nat, room f a ≤ room f (a + d)
  | 0 => Int.le_refl _
  | d + 1 => by
    have h := room_up f a d
    have h2 := p2_pos (15 - f (a + d)).toNat
    show room f a ≤ room f (a + d) + (if 0 < f (a + d) then p2 (15 - f (a + d)).toNat else 0)
    split <;> omega
end Go.Proofs.YtbcnlggkoidmmaaGreatDoor

namespace Go.Proofs.YtbcnlggkoidmmaaGreatDoor.RunsMath

/-- How often x stands from place i on, at most so many times. -/
def sameN (f : Nat → Int) (n : Nat) (x : Int) : Nat → Nat → Nat
  | 0, _ => 0
  | m + 1, i => if i < n ∧ f i = x then 1 + sameN f n x m (i + 1) else 0
theorem same_le (f : Nat → Int) (n : Nat) (x : Int) : ∀ m i, sameN f n x m i ≤ m
  | 0, _ => Nat.le_refl _
  | m + 1, i => by
    have := same_le f n x m (i + 1)
    unfold sameN
    split <;> omega
theorem same_in (f : Nat → Int) (n : Nat) (x : Int) : ∀ m i, i ≤ n → i + sameN f n x m i ≤ n
  | 0, i, h => h
  | m + 1, i, h => by
    unfold sameN
    split
    · rename_i q
      have := same_in f n x m (i + 1) (by omega)
      omega
    · omega
/-- It is told by that. -/
theorem same_told {f : Nat → Int} {n : Nat} {x : Int} : ∀ {m i k : Nat}, k ≤ m → i + k ≤ n → (∀ j, j < k → f (i + j) = x) → (k = m ∨ i + k = n ∨ f (i + k) ≠ x) → sameN f n x m i = k
  | 0, i, k, h1, _, _, _ => by
    obtain rfl : k = 0 := by omega
    rfl
  | m + 1, i, k, h1, h2, h3, h4 => by
    unfold sameN
    cases k with
    | zero =>
      rw [if_neg]
      rintro ⟨q1, q2⟩
      rcases h4 with h | h | h
      · omega
      · omega
      · exact h q2
    | succ k =>
      rw [if_pos ⟨by omega, h3 0 (by omega)⟩]
      have := same_told (f := f) (n := n) (x := x) (m := m) (i := i + 1) (k := k) (by omega) (by omega) (fun j hj => by rw [show i + 1 + j = i + (j + 1) by omega]; exact h3 (j + 1) (by omega)) (by
        rcases h4 with h | h | h
        · exact .inl (by omega)
        · exact .inr (.inl (by omega))
        · exact .inr (.inr (by rw [show i + 1 + k = i + (k + 1) by omega]; exact h)))
      omega

def zerosAt (f : Nat → Int) (n i : Nat) : Nat := sameN f n 0 138 i
def sameAt (f : Nat → Int) (n i : Nat) : Nat := if i = 0 then 0 else sameN f n (f (i - 1)) 6 i
/-- The Run at place i, and how many lengths it tells. -/
def runAt (f : Nat → Int) (n i : Nat) : (Int × Int) × Nat :=
  if 11 ≤ zerosAt f n i then ((18, (zerosAt f n i : Int) - 11), zerosAt f n i)
  else if 3 ≤ zerosAt f n i then ((17, (zerosAt f n i : Int) - 3), zerosAt f n i)
  else if 3 ≤ sameAt f n i then ((16, (sameAt f n i : Int) - 3), sameAt f n i)
  else ((f i, 0), 1)
theorem zeros_le (f : Nat → Int) (n i : Nat) : zerosAt f n i ≤ 138 := same_le _ _ _ _ _
theorem sameAt_le (f : Nat → Int) (n i : Nat) : sameAt f n i ≤ 6 := by
  unfold sameAt
  split
  · omega
  · exact same_le _ _ _ _ _
theorem runAt_pos (f : Nat → Int) (n i : Nat) : 1 ≤ (runAt f n i).2 := by
  unfold runAt
  split
  · show 1 ≤ zerosAt f n i; omega
  · split
    · show 1 ≤ zerosAt f n i; omega
    · split
      · show 1 ≤ sameAt f n i; omega
      · exact Nat.le_refl _
theorem sameAt_in {f : Nat → Int} {n i : Nat} (h : i ≤ n) : i + sameAt f n i ≤ n := by
  unfold sameAt
  split
  · omega
  · exact same_in _ _ _ _ _ h
theorem runAt_in {f : Nat → Int} {n i : Nat} (h : i < n) : i + (runAt f n i).2 ≤ n := by
  have h1 : i + zerosAt f n i ≤ n := same_in f n 0 138 i (by omega)
  have h2 := sameAt_in (f := f) (show i ≤ n by omega)
  unfold runAt
  split
  · exact h1
  · split
    · exact h1
    · split
      · exact h2
      · exact h
/-- The Runs from place i on. -/
def rest (f : Nat → Int) (n : Nat) (i : Nat) : List (Int × Int) :=
  if i < n then (runAt f n i).1 :: rest f n (i + max 1 (runAt f n i).2) else []
termination_by n - i
decreasing_by omega
theorem rest_more {f : Nat → Int} {n i : Nat} (h : i < n) : rest f n i = (runAt f n i).1 :: rest f n (i + (runAt f n i).2) := by
  rw [rest, if_pos h, Nat.max_eq_right (runAt_pos f n i)]
theorem rest_none {f : Nat → Int} {n i : Nat} (h : ¬ i < n) : rest f n i = [] := by rw [rest, if_neg h]
theorem rest_length (f : Nat → Int) (n : Nat) : ∀ d i, n - i = d → (rest f n i).length ≤ n - i := by
  intro d
  induction d using Nat.strongRecOn with
  | _ d ih =>
    intro i hd
    by_cases h : i < n
    · rw [rest_more h, List.length_cons]
      have h1 := runAt_pos f n i
      have h2 := ih (n - (i + (runAt f n i).2)) (by omega) (i + (runAt f n i).2) rfl
      omega
    · rw [rest_none h]
      exact Nat.zero_le _
/-- Of a symbol how many extra bits it has. -/
def bitsOf (s : Int) : Nat := if s = 16 then 2 else if s = 17 then 3 else if s = 18 then 7 else 0
def Fine (f : Nat → Int) (n : Nat) : Prop := ∀ i, i < n → 0 ≤ f i ∧ f i ≤ 15
theorem runAt_fine {f : Nat → Int} {n i : Nat} (hf : Fine f n) (hi : i < n) : 0 ≤ (runAt f n i).1.2 ∧ (runAt f n i).1.2 < 2 ^ bitsOf (runAt f n i).1.1 := by
  have h1 := zeros_le f n i
  have h2 := sameAt_le f n i
  have h3 := hf i hi
  unfold runAt
  split
  · show 0 ≤ (zerosAt f n i : Int) - 11 ∧ (zerosAt f n i : Int) - 11 < 2 ^ 7
    omega
  · split
    · show 0 ≤ (zerosAt f n i : Int) - 3 ∧ (zerosAt f n i : Int) - 3 < 2 ^ 3
      omega
    · split
      · show 0 ≤ (sameAt f n i : Int) - 3 ∧ (sameAt f n i : Int) - 3 < 2 ^ 2
        omega
      · show (0 : Int) ≤ 0 ∧ (0 : Int) < 2 ^ bitsOf (f i)
        have : bitsOf (f i) = 0 := by unfold bitsOf; rw [if_neg (by omega), if_neg (by omega), if_neg (by omega)]
        rw [this]
        omega
theorem rest_fine {f : Nat → Int} {n : Nat} (hf : Fine f n) : ∀ d i, n - i = d → ∀ r ∈ rest f n i, 0 ≤ r.2 ∧ r.2 < 2 ^ bitsOf r.1 := by
  intro d
  induction d using Nat.strongRecOn with
  | _ d ih =>
    intro i hd r hr
    by_cases h : i < n
    · rw [rest_more h] at hr
      rcases List.mem_cons.mp hr with rfl | hr
      · exact runAt_fine hf h
      · have h1 := runAt_pos f n i
        exact ih (n - (i + (runAt f n i).2)) (by omega) (i + (runAt f n i).2) rfl r hr
    · rw [rest_none h] at hr
      cases hr

/-! The way back. -/
/-- What a Run tells behind some lengths. -/
def tell (out : List Int) (r : Int × Int) : Option (List Int) :=
  if r.1 = 16 then (if 0 ≤ r.2 ∧ r.2 ≤ 3 ∧ 0 < out.length then some (List.replicate (3 + r.2).toNat (out.getD (out.length - 1) 0)) else none)
  else if r.1 = 17 then (if 0 ≤ r.2 ∧ r.2 ≤ 7 then some (List.replicate (3 + r.2).toNat 0) else none)
  else if r.1 = 18 then (if 0 ≤ r.2 ∧ r.2 ≤ 127 then some (List.replicate (11 + r.2).toNat 0) else none)
  else if 0 ≤ r.1 ∧ r.1 ≤ 15 ∧ r.2 = 0 then some [r.1] else none
/-- What Runs tell, of so many lengths. -/
def back (z : Nat) (out : List Int) : List (Int × Int) → Option (List Int)
  | [] => if out.length = z then some out else none
  | r :: R => match tell out r with
    | none => none
    | some more => if out.length + more.length ≤ z then back z (out ++ more) R else none
end Go.Proofs.YtbcnlggkoidmmaaGreatDoor.RunsMath

namespace Go.Proofs.YtbcnlggkoidmmaaGreatDoor
namespace HitMath
open OutMath CodeMath TakeMath

/-- The number whose bits, the highest first, are the k from bit a on. -/
def hi (s : ByteArray) (a : Nat) : Nat → Int
  | 0 => 0
  | k + 1 => 2 * hi s a k + bit s (a + k)
theorem p2_add (a b : Nat) : p2 (a + b) = p2 a * p2 b := by unfold p2; exact Int.pow_add 2 a b
theorem nx_ge (f : Nat → Int) (n t : Nat) : ∀ d, p2 d * nx f n t ≤ nx f n (t + d)
  | 0 => by rw [p2_zero]; simp
  | d + 1 => by
    have h := nx_ge f n t d
    have hc := cntS_bd f ((t + d + 1 : Nat) : Int) n
    have e : nx f n (t + (d + 1)) = 2 * nx f n (t + d) + cntS f ((t + d + 1 : Nat) : Int) n := rfl
    rw [e, p2_succ, Int.mul_assoc]
    omega
theorem code_in {f : Nat → Int} {n i k : Nat} (hi : i < n) (hk : 1 ≤ k) (e : f i = (k : Int)) : 2 * nx f n (k - 1) ≤ codeOf f n i ∧ codeOf f n i < nx f n k := by
  unfold codeOf
  rw [if_neg (by omega), e, Int.toNat_natCast, ← nx_step f n k hk]
  have h1 := cntS_bd f (k : Int) i
  have h2 := cntS_lt f (k : Int) hi e
  omega
/-- The room is the number behind the last code. -/
def part (s : Nat) (x : Int) : Int := if 1 ≤ x ∧ x ≤ (s : Int) then p2 (s - x.toNat) else 0
theorem nx_add (f : Nat → Int) (n : Nat) : ∀ s, nx f (n + 1) s = nx f n s + part s (f n)
  | 0 => by
    show (0 : Int) = 0 + part 0 (f n)
    unfold part
    rw [if_neg (by omega)]
    rfl
  | s + 1 => by
    show 2 * nx f (n + 1) s + (cntS f ((s + 1 : Nat) : Int) n + (if f n = ((s + 1 : Nat) : Int) then 1 else 0)) = 2 * nx f n s + cntS f ((s + 1 : Nat) : Int) n + part (s + 1) (f n)
    rw [nx_add f n s]
    unfold part
    by_cases h1 : 1 ≤ f n ∧ f n ≤ (s : Int)
    · rw [if_pos h1, if_neg (by omega), if_pos (by omega), show s + 1 - (f n).toNat = s - (f n).toNat + 1 by omega, p2_succ]
      omega
    · by_cases h2 : f n = ((s + 1 : Nat) : Int)
      · rw [if_neg h1, if_pos h2, if_pos (by omega), show s + 1 - (f n).toNat = 0 by omega, p2_zero]
        omega
      · rw [if_neg h1, if_neg h2, if_neg (by omega)]
        omega
theorem room_nx (f : Nat → Int) : ∀ n, OkLens f n → room f n = nx f n 15
  | 0, _ => by
    have e : ∀ s, nx f 0 s = 0 := by
      intro s
      induction s with
      | zero => rfl
      | succ s ih => show 2 * nx f 0 s + 0 = 0; omega
    rw [e]
    rfl
  | n + 1, h => by
    have hn := h n (by omega)
    rw [nx_add, ← room_nx f n (fun i hi => h i (by omega))]
    show room f n + (if 0 < f n then p2 (15 - f n).toNat else 0) = room f n + part 15 (f n)
    unfold part
    by_cases hp : 0 < f n
    · rw [if_pos hp, if_pos (by omega), show (15 - f n).toNat = 15 - (f n).toNat by omega]
    · rw [if_neg hp, if_neg (by omega)]
theorem nx_le {f : Nat → Int} {n : Nat} (h : Coded f n) (k : Nat) (hk : k ≤ 15) : nx f n k ≤ p2 k := by
  obtain ⟨_, h2, h3⟩ := h
  rw [room_nx f n h2] at h3
  have h4 := nx_ge f n k (15 - k)
  rw [show k + (15 - k) = 15 by omega] at h4
  have e : p2 15 = p2 (15 - k) * p2 k := by rw [← p2_add, show 15 - k + k = 15 by omega]
  have e2 : p2 15 = 32768 := by decide +kernel
  have hp := p2_pos (15 - k)
  exact Int.le_of_mul_le_mul_left (by omega) (show 0 < p2 (15 - k) by omega)
theorem code_lt {f : Nat → Int} {n i : Nat} (h : Coded f n) (hi : i < n) : 0 ≤ codeOf f n i ∧ codeOf f n i < p2 (f i).toNat := by
  have hok := h.2.1 i hi
  by_cases hp : 0 < f i
  · have h1 := code_in hi (show 1 ≤ (f i).toNat by omega) (show f i = ((f i).toNat : Int) by omega)
    have h2 := nx_le h (f i).toNat (by omega)
    have h3 := (nx_bd f n h.1 ((f i).toNat - 1)).1
    omega
  · unfold codeOf
    rw [if_pos (by omega)]
    have := p2_pos (f i).toNat
    omega

/-- Symbol i, of length k, is what comes next. -/
def Hit (f : Nat → Int) (n : Nat) (s : ByteArray) (a : Nat) (i k : Nat) : Prop := i < n ∧ 1 ≤ k ∧ f i = (k : Int) ∧ codeOf f n i = hi s a k ∧ a + k ≤ 8 * s.size
end HitMath
open OutMath CodeMath TakeMath HitMath

end Go.Proofs.YtbcnlggkoidmmaaGreatDoor

namespace Go.Proofs.YtbcnlggkoidmmaaGreatDoor.WayMath
open OutMath CodeMath TakeMath HitMath

/-- A code begins with the next k bits. -/
def Begins (f : Nat → Int) (n : Nat) (s : ByteArray) (a k : Nat) : Prop := ∃ i, i < n ∧ f i ≠ 0 ∧ (k : Int) ≤ f i ∧ codeOf f n i / p2 (f i - k).toNat = hi s a k
/-- The bits run out, while codes still begin with what was read. -/
def RunsOut (f : Nat → Int) (n : Nat) (s : ByteArray) (a : Nat) : Prop := (∀ i k, ¬ Hit f n s a i k) ∧ ∃ k, a + k = 8 * s.size ∧ ∀ j, j ≤ k → Begins f n s a j
open Classical in
/-- What comes of a symbol: it and its bits; or 1: no code begins so; or 2: the bits run out. -/
noncomputable def symW (f : Nat → Int) (n : Nat) (s : ByteArray) (a : Nat) : Nat × Nat × Nat :=
  if h : ∃ p : Nat × Nat, Hit f n s a p.1 p.2 then ((Classical.choose h).1, (Classical.choose h).2, 0) else if RunsOut f n s a then (0, 0, 2) else (0, 0, 1)
section
variable {f : Nat → Int} {n : Nat} {s : ByteArray} {a : Nat}
end
end Go.Proofs.YtbcnlggkoidmmaaGreatDoor.WayMath

namespace Go.Proofs.YtbcnlggkoidmmaaGreatDoor.InfMath
open OutMath CodeMath TakeMath HitMath WayMath StepMath TokMath RunsMath

section
variable (s : ByteArray) (most : Nat)
/-- In which order the lengths of the third code come. -/
def orderL : List Nat := [16, 17, 18, 0, 8, 7, 9, 6, 10, 5, 11, 4, 12, 3, 13, 2, 14, 1, 15]
/-- What the lengths must be. -/
def TabRight (n : Nat) (L : List Int) : Prop := (kindOf (fun i => L.getD i 0) n = 2 ∨ kindOf (fun i => L.getD i 0) n = 3) ∧ L.getD 256 0 ≠ 0 ∧ (kindOf (fun i => (L.drop n).getD i 0) (L.length - n) = 1 ∨ kindOf (fun i => (L.drop n).getD i 0) (L.length - n) = 2 ∨ kindOf (fun i => (L.drop n).getD i 0) (L.length - n) = 3)
instance (n : Nat) (L : List Int) : Decidable (TabRight n L) := by unfold TabRight; exact inferInstance
end
end Go.Proofs.YtbcnlggkoidmmaaGreatDoor.InfMath

namespace Go.Proofs.YtbcnlggkoidmmaaGreatDoor
namespace TrimMath
open TokMath

/-- What is left when what is 0 at the end is left out, but the first least ones. -/
def trimN (f : Nat → Int) (least : Nat) : Nat → Nat
  | 0 => 0
  | n + 1 => if least < n + 1 ∧ f n = 0 then trimN f least n else n + 1
theorem trimN_zero {f : Nat → Int} {least n : Nat} (h : least < n + 1) (h0 : f n = 0) : trimN f least (n + 1) = trimN f least n := if_pos ⟨h, h0⟩
theorem trimN_keep {f : Nat → Int} {least n : Nat} (h0 : f n ≠ 0) : trimN f least (n + 1) = n + 1 := if_neg fun h => h0 h.2
theorem trimN_least {f : Nat → Int} {least : Nat} : ∀ {n : Nat}, n ≤ least → trimN f least n = n
  | 0, _ => rfl
  | _ + 1, h => if_neg fun q => by omega
theorem trimN_le (f : Nat → Int) (least : Nat) : ∀ n, trimN f least n ≤ n
  | 0 => Nat.le_refl _
  | n + 1 => by
    unfold trimN
    split
    · have := trimN_le f least n
      omega
    · exact Nat.le_refl _
theorem trimN_ge (f : Nat → Int) (least : Nat) : ∀ n, least ≤ n → least ≤ trimN f least n
  | 0, h => h
  | n + 1, h => by
    unfold trimN
    split
    · exact trimN_ge f least n (by omega)
    · exact h
/-- What is left out is 0. -/
theorem trimN_out (f : Nat → Int) (least : Nat) : ∀ n i, trimN f least n ≤ i → i < n → f i = 0
  | 0, i, _, h => by omega
  | n + 1, i, h1, h2 => by
    unfold trimN at h1
    split at h1
    · rename_i q
      by_cases e : i = n
      · rw [e]; exact q.2
      · exact trimN_out f least n i h1 (by omega)
    · omega

/-- Tokens that are all right, and not too many. -/
def TokensRight (L : List Tok) : Prop := L.length ≤ 12000 ∧ ∀ t ∈ L, TokRight t
instance (L : List Tok) : Decidable (TokensRight L) := by unfold TokensRight; exact inferInstance
end TrimMath
end Go.Proofs.YtbcnlggkoidmmaaGreatDoor

namespace Go.Proofs.YtbcnlggkoidmmaaGreatDoor
namespace TokLenMath
open TokMath StepMath

/-- A token's symbol of the first code, and, of a token that repeats, of the second. -/
def sym1 (t : Tok) : Nat := if t.2.1 = 0 then t.1.toNat else (LengthCodeOf t.2.1).1.toNat
def sym2 (t : Tok) : Nat := (DistCodeOf t.2.2).1.toNat
/-- How often each symbol is met; the end of the block once. -/
def cntA (L : List Tok) (i : Nat) : Int := (if i = 256 then 1 else 0) + ((L.filter fun t => decide (sym1 t = i)).length : Int)
def cntB (L : List Tok) (i : Nat) : Int := ((L.filter fun t => decide (t.2.1 ≠ 0 ∧ sym2 t = i)).length : Int)
theorem cntA_snoc (L : List Tok) (t : Tok) (i : Nat) : upd (cntA L) (sym1 t) (cntA L (sym1 t) + 1) i = cntA (L ++ [t]) i := by
  unfold upd cntA
  rw [List.filter_append, List.length_append]
  by_cases h : i = sym1 t
  · subst h
    rw [if_pos rfl]
    simp
    omega
  · rw [if_neg h]
    have : ¬ sym1 t = i := fun e => h e.symm
    simp [this]
theorem cntB_snoc (L : List Tok) (t : Tok) (ht : t.2.1 ≠ 0) (i : Nat) : upd (cntB L) (sym2 t) (cntB L (sym2 t) + 1) i = cntB (L ++ [t]) i := by
  unfold upd cntB
  rw [List.filter_append, List.length_append]
  by_cases h : i = sym2 t
  · subst h
    rw [if_pos rfl]
    simp [ht]
  · rw [if_neg h]
    have : ¬ sym2 t = i := fun e => h e.symm
    simp [this]
theorem cntB_byte (L : List Tok) (t : Tok) (ht : t.2.1 = 0) (i : Nat) : cntB L i = cntB (L ++ [t]) i := by
  unfold cntB
  rw [List.filter_append, List.length_append]
  simp [ht]
theorem sym1_byte {x z : Int} : sym1 (x, 0, z) = x.toNat := if_pos rfl
theorem sym1_rep {x y z : Int} (h : y ≠ 0) : sym1 (x, y, z) = (LengthCodeOf y).1.toNat := if_neg h
theorem len_range {y : Int} (h : 3 ≤ y ∧ y ≤ 258) : 257 ≤ (LengthCodeOf y).1 ∧ (LengthCodeOf y).1 ≤ 285 := by
  unfold LengthCodeOf
  rw [if_pos h]
  unfold lenCode
  split
  · have := (len_fact (n := y.toNat) (by omega) (by omega)).1
    simp only []
    omega
  · simp only []
    omega
theorem dist_range {z : Int} (h : 1 ≤ z ∧ z ≤ 32768) : 0 ≤ (DistCodeOf z).1 ∧ (DistCodeOf z).1 ≤ 29 := by
  unfold DistCodeOf
  rw [if_pos h]
  unfold distCode
  have := (dist_fact (n := z.toNat) (by omega) (by omega)).1
  simp only []
  omega
theorem sym1_lt {t : Tok} (h : TokRight t) : sym1 t < 286 ∧ sym1 t ≠ 256 := by
  obtain ⟨x, y, z⟩ := t
  unfold TokRight at h
  by_cases e : y = 0
  · subst e
    rw [if_pos rfl] at h
    rw [sym1_byte]
    simp only [] at h
    omega
  · rw [if_neg e] at h
    rw [sym1_rep e]
    have := len_range (y := y) h.2.1
    omega
theorem cnt_le (L : List Tok) (p : Tok → Bool) : (L.filter p).length ≤ L.length := List.length_filter_le p L
/-- Counts that may be limited: each is at most the number of the tokens, but for the end of the block. -/
theorem cntA_le {L : List Tok} (h : ∀ t ∈ L, TokRight t) (hL : L.length ≤ 12000) (i : Nat) : 0 ≤ cntA L i ∧ cntA L i ≤ 12000 := by
  unfold cntA
  by_cases e : i = 256
  · have h0 : (L.filter fun t => decide (sym1 t = i)) = [] := List.filter_eq_nil_iff.mpr fun t ht => by
      have := (sym1_lt (h t ht)).2
      simp only [decide_eq_true_eq]
      omega
    rw [h0, if_pos e]
    simp
  · rw [if_neg e]
    have := cnt_le L (fun t => decide (sym1 t = i))
    omega
theorem cntB_le {L : List Tok} (hL : L.length ≤ 12000) (i : Nat) : 0 ≤ cntB L i ∧ cntB L i ≤ 12000 := by
  unfold cntB
  have := cnt_le L (fun t => decide (t.2.1 ≠ 0 ∧ sym2 t = i))
  omega
end TokLenMath
end Go.Proofs.YtbcnlggkoidmmaaGreatDoor

namespace Go.Proofs.YtbcnlggkoidmmaaGreatDoor
open Go.RowKit TokMath TrimMath TokLenMath PackageMath

theorem iown_cut {w : World} {base g n cap m : Nat} {f : Nat → Int} (h : IOwn w base g n cap f) (hm : m ≤ n) : IOwn w base g m cap f := by
  obtain ⟨cap', cur, fz, e, h1, h2, h3, h4, h5, h6, h7⟩ := h
  rw [fints_length] at e h4 h7
  cases e
  refine ⟨cap, cur, fz, by rw [fints_length], h1, h2, h3, by rw [fints_length]; omega, h5, h6, ?_⟩
  rw [fints_length]
  have e1 : (cur.toList.take n).take m = cur.toList.take m := by rw [List.take_take, Nat.min_eq_left hm]
  rw [← e1, h7]
  unfold fints
  rw [← List.map_take, List.take_range, Nat.min_eq_left hm]
theorem limit_right {f : Nat → Int} {n : Nat} (hn : n ≤ 288) (hf : ∀ i, 0 ≤ f i ∧ f i ≤ 12000) : LimitRight f n ((15 : Nat) : Int) := by
  refine ⟨hn, by omega, by omega, fun i _ => hf i, ?_⟩
  have := cN_le (fun i => decide (f i ≠ 0)) n
  unfold posN
  rw [show ((15 : Nat) : Int).toNat = 15 from rfl, show (2 : Int) ^ 15 = 32768 by decide]
  omega
/-- The lengths that TokenLengths tells, and how many. -/
def lenA (L : List Tok) : Nat → Int := limLen (cntA L) 286 15
def lenB (L : List Tok) : Nat → Int := limLen (cntB L) 30 15
def sizeA (L : List Tok) : Nat := trimN (lenA L) 257 286
def sizeB (L : List Tok) : Nat := trimN (lenB L) 1 30
def TokLenAnswer : Prop := ∀ (a : Option Addr) (c : Nat) (L : List Tok) (w : World), TCame w a L.length (fun j => L.getD j (0, 0, 0)) → L.length ≤ 1048576 →
    (TokensRight L → Calls Tryz.prog 36 #[.slice a L.length c] w fun e w' => ∃ a1 c1 a2 c2, e = .returned (.tuple #[.slice a1 (sizeA L) c1, .slice a2 (sizeB L) c2, .bool true]) ∧ SL w' w.heap.size a1 (sizeA L) c1 (lenA L) ∧ SL w' w.heap.size a2 (sizeB L) c2 (lenB L) ∧ a1 ≠ a2 ∧ Below w.heap.size w w') ∧
    (¬ TokensRight L → Calls Tryz.prog 36 #[.slice a L.length c] w fun e w' => e = .returned (.tuple #[.slice none 0 0, .slice none 0 0, .bool false]) ∧ Below w.heap.size w w')
end Go.Proofs.YtbcnlggkoidmmaaGreatDoor
