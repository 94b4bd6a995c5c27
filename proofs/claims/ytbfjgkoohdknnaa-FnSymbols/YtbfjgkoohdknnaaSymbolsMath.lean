/-
  Plain facts on symbols that are put and taken again; nothing here speaks of the program.
-/
import Derived.Test.YtbfjgkoohdknnaaOutMath
import Derived.Test.YtbfjgkoohdknnaaPutMath
import Derived.Test.YtbfjgkoohdknnaaPutLib
import Derived.Test.YtbfjgkoohdknnaaTakeMath
import Derived.Test.YtbfjgkoohdknnaaBitsMath
import Derived.Test.YtbfjgkoohdknnaaCodeMath
import Derived.Test.YtbfjgkoohdknnaaHitMath
import Derived.Test.YtbfjgkoohdknnaaPutsMath
import Derived.WalkKit
namespace Go.Proofs.Ytbfjgkoohdknnaa
namespace SymbolsMath
open OutMath PutMath TakeMath BitsMath CodeMath HitMath PutsMath

section
variable (f : Nat → Int) (n : Nat) (x : Nat → Nat)
/-- How many bits the first j symbols have. -/
def syC : Nat → Nat
  | 0 => 0
  | j + 1 => syC j + (f (x j)).toNat
/-- Their bytes. -/
def syY : Nat → List Int
  | 0 => []
  | j + 1 => puts (syY j) (syC f x j) (fun i => bitOf (codeOf f n (x j)) ((f (x j)).toNat - 1 - i)) (f (x j)).toNat
end
section
variable {f : Nat → Int} {n : Nat} {x : Nat → Nat}
theorem sy_bits (j i : Nat) : 0 ≤ bitOf (codeOf f n (x j)) ((f (x j)).toNat - 1 - i) ∧ bitOf (codeOf f n (x j)) ((f (x j)).toNat - 1 - i) ≤ 1 := bitOf_01 _ _
theorem sy_inv : ∀ j, Inv (syY f n x j) (syC f x j)
  | 0 => inv_nil
  | j + 1 => inv_puts (sy_inv j) (fun i => sy_bits j i) _
theorem sy_allB : ∀ j, AllB (syY f n x j)
  | 0 => allB_nil
  | j + 1 => allB_puts (sy_inv j) (sy_allB j) (fun i => sy_bits j i) _
theorem syC_mono (j : Nat) : ∀ d, syC f x j ≤ syC f x (j + d)
  | 0 => Nat.le_refl _
  | d + 1 => Nat.le_trans (syC_mono j d) (Nat.le_add_right _ _)
theorem syC_le (h : ∀ j, (f (x j)).toNat ≤ 15) : ∀ j, syC f x j ≤ 15 * j
  | 0 => Nat.le_refl _
  | j + 1 => by have h1 := syC_le h j; have h2 := h j; show syC f x j + (f (x j)).toNat ≤ _; omega
theorem sy_old (j i : Nat) (hi : i < syC f x j) : ∀ d, bitAt (syY f n x (j + d)) i = bitAt (syY f n x j) i
  | 0 => rfl
  | d + 1 => by
    have h := syC_mono (f := f) (x := x) j d
    rw [← sy_old j i hi d]
    exact puts_old (sy_inv (j + d)) (fun q => sy_bits (j + d) q) i (by omega) _
theorem sy_bit (j L i : Nat) (hj : j < L) (hi : i < (f (x j)).toNat) : bit (strOfNums (syY f n x L)) (syC f x j + i) = bitOf (codeOf f n (x j)) ((f (x j)).toNat - 1 - i) := by
  obtain ⟨d, rfl⟩ := Nat.exists_eq_add_of_le (show j + 1 ≤ L by omega)
  rw [bit_str (sy_allB _), sy_old (j + 1) _ (by show _ < syC f x j + (f (x j)).toNat; omega) d]
  exact puts_new (sy_inv j) (fun q => sy_bits j q) i _ hi
/-- The code that was put is what comes next. -/
theorem sy_hi (j L : Nat) (hj : j < L) (h0 : 0 ≤ codeOf f n (x j)) (h1 : codeOf f n (x j) < p2 (f (x j)).toNat) : ∀ k, k ≤ (f (x j)).toNat → hi (strOfNums (syY f n x L)) (syC f x j) k = codeOf f n (x j) / p2 ((f (x j)).toNat - k)
  | 0, _ => by
    rw [Nat.sub_zero]
    exact (Int.ediv_eq_zero_of_lt h0 h1).symm
  | k + 1, hk => by
    show 2 * hi (strOfNums (syY f n x L)) (syC f x j) k + bit (strOfNums (syY f n x L)) (syC f x j + k) = _
    rw [sy_hi j L hj h0 h1 k (by omega), sy_bit j L k hj (by omega), code_step _ _ _ (by omega)]
theorem sy_size (L : Nat) : (strOfNums (syY f n x L)).size = (syC f x L + 7) / 8 := by
  rw [strOfNums_size]
  exact (sy_inv L).1
theorem sy_hit (hG : Coded f n) (j L : Nat) (hj : j < L) (hx : x j < n) (hf : 1 ≤ f (x j)) : Hit f n (strOfNums (syY f n x L)) (syC f x j) (x j) (f (x j)).toNat := by
  have hc := code_lt hG hx
  refine ⟨hx, by omega, by omega, ?_, ?_⟩
  · have h := sy_hi j L hj hc.1 hc.2 (f (x j)).toNat (Nat.le_refl _)
    rw [Nat.sub_self, p2_zero, Int.ediv_one] at h
    exact h.symm
  · obtain ⟨d, rfl⟩ := Nat.exists_eq_add_of_le (show j + 1 ≤ L by omega)
    have h := syC_mono (f := f) (x := x) (j + 1) d
    have h2 : syC f x (j + 1) = syC f x j + (f (x j)).toNat := rfl
    rw [sy_size]
    omega

/-- They are put so. -/
theorem sy_ps : ∀ j, ps f n (fun i => (x i : Int)) ⟨#[]⟩ 0 j = (strOfNums (syY f n x j), syC f x j)
  | 0 => rfl
  | j + 1 => by
    have e : ps f n (fun i => (x i : Int)) ⟨#[]⟩ 0 (j + 1) = (putOut (ps f n (fun i => (x i : Int)) ⟨#[]⟩ 0 j).1 (ps f n (fun i => (x i : Int)) ⟨#[]⟩ 0 j).2 (codeOf f n ((x j : Int)).toNat) (fun i => (f ((x j : Int)).toNat).toNat - 1 - i) (f ((x j : Int)).toNat).toNat, (ps f n (fun i => (x i : Int)) ⟨#[]⟩ 0 j).2 + (f ((x j : Int)).toNat).toNat) := rfl
    rw [e, sy_ps j, Int.toNat_natCast]
    unfold putOut
    rw [nums_back (sy_allB j)]
    rfl
theorem sy_right (hG : Coded f n) (m : Nat) (hm : m ≤ 100) (hx : ∀ j, x j < n) (hf : ∀ i, i < n → 1 ≤ f i) : PutsRight f n (fun i => (x i : Int)) m ⟨#[]⟩ 0 := by
  have h15 : ∀ j, (f (x j)).toNat ≤ 15 := fun j => by have := (hG.2.1 _ (hx j)).2; omega
  refine ⟨hG, by decide +kernel, fun j hj => ?_⟩
  have hc := code_lt hG (hx j)
  have hl := syC_le h15 j
  have h1 := hf _ (hx j)
  have h2 := h15 j
  show SymOk f n (fun i => (x i : Int)) ⟨#[]⟩ 0 j
  unfold SymOk
  rw [sy_ps, Int.toNat_natCast]
  refine ⟨by show (0 : Int) ≤ (x j : Int); omega, by have := hx j; show (x j : Int) ≤ (n : Int) - 1; omega, by omega, outB_of_inv (sy_inv j) (sy_allB j) (by omega), by omega, by omega, hc.1, hc.2, ?_⟩
  show ((syC f x j : Nat) : Int) + f (x j) ≤ 96000
  omega

/-- What counted symbols cost is how many bits they have. -/
def tally (x : Nat → Nat) : Nat → Nat → Int
  | 0 => fun _ => 0
  | j + 1 => fun i => if i = x j then tally x j i + 1 else tally x j i
theorem cost_upd (c : Nat → Int) (i : Nat) : ∀ k, cost f (fun q => if q = i then c q + 1 else c q) k = cost f c k + (if i < k then f i else 0)
  | 0 => by simp [cost]
  | k + 1 => by
    show cost f (fun q => if q = i then c q + 1 else c q) k + (if k = i then c k + 1 else c k) * f k = cost f c k + c k * f k + (if i < k + 1 then f i else 0)
    rw [cost_upd c i k]
    by_cases h : k = i
    · subst h
      rw [if_pos rfl, if_neg (by omega), if_pos (by omega), Int.add_mul]
      omega
    · rw [if_neg h]
      by_cases h2 : i < k
      · rw [if_pos h2, if_pos (by omega)]; omega
      · rw [if_neg h2, if_neg (by omega)]; omega
theorem cost_tally (hx : ∀ j, x j < n) (hf : ∀ i, i < n → 1 ≤ f i) : ∀ j, cost f (tally x j) n = (syC f x j : Int)
  | 0 => by
    have : ∀ k, cost f (fun _ => 0) k = 0 := by
      intro k
      induction k with
      | zero => rfl
      | succ k ih => show cost f (fun _ => 0) k + 0 * f k = 0; rw [ih]; simp
    exact this n
  | j + 1 => by
    have h := cost_upd (f := f) (tally x j) (x j) n
    have e : tally x (j + 1) = fun q => if q = x j then tally x j q + 1 else tally x j q := rfl
    have h1 := hf _ (hx j)
    rw [e, h, cost_tally hx hf j, if_pos (hx j)]
    show (syC f x j : Int) + f (x j) = ((syC f x j + (f (x j)).toNat : Nat) : Int)
    omega
theorem tally_bd (x : Nat → Nat) (i : Nat) : ∀ j : Nat, 0 ≤ tally x j i ∧ tally x j i ≤ j
  | 0 => by simp [tally]
  | j + 1 => by
    have h := tally_bd x i j
    show 0 ≤ (if i = x j then tally x j i + 1 else tally x j i) ∧ (if i = x j then tally x j i + 1 else tally x j i) ≤ ((j + 1 : Nat) : Int)
    split <;> omega
end

end SymbolsMath
end Go.Proofs.Ytbfjgkoohdknnaa
