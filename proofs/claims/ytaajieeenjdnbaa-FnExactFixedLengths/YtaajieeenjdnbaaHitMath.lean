/-
  Plain facts on codes as beginnings of bits; nothing here speaks of the program.
-/
import Derived.Test.YtaajieeenjdnbaaOutMath
import Derived.Test.YtaajieeenjdnbaaCodeMath
import Derived.Test.YtaajieeenjdnbaaTakeMath
import Derived.WalkKit
namespace Go.Proofs.Ytaajieeenjdnbaa
namespace HitMath
open OutMath CodeMath TakeMath

/-- The number whose bits, the highest first, are the k from bit a on. -/
def hi (s : ByteArray) (a : Nat) : Nat → Int
  | 0 => 0
  | k + 1 => 2 * hi s a k + bit s (a + k)
theorem hi_bd (s : ByteArray) (a : Nat) : ∀ k, 0 ≤ hi s a k ∧ hi s a k < p2 k
  | 0 => by simp [hi, p2]
  | k + 1 => by
    have h := hi_bd s a k
    have hb := bit_01 s (a + k)
    unfold hi
    rw [p2_succ]
    omega
theorem p2_add (a b : Nat) : p2 (a + b) = p2 a * p2 b := by unfold p2; exact Int.pow_add 2 a b
theorem hi_div (s : ByteArray) (a k : Nat) : ∀ m, hi s a (k + m) / p2 m = hi s a k
  | 0 => by rw [p2_zero]; simp
  | m + 1 => by
    have h := hi_div s a k m
    have hb := bit_01 s (a + (k + m))
    rw [p2_succ, ← Int.ediv_ediv_of_nonneg (by omega)]
    have e : hi s a (k + (m + 1)) / 2 = hi s a (k + m) := by
      show (2 * hi s a (k + m) + bit s (a + (k + m))) / 2 = _
      omega
    rw [e, h]

theorem nx_ge (f : Nat → Int) (n t : Nat) : ∀ d, p2 d * nx f n t ≤ nx f n (t + d)
  | 0 => by rw [p2_zero]; simp
  | d + 1 => by
    have h := nx_ge f n t d
    have hc := cntS_bd f ((t + d + 1 : Nat) : Int) n
    have e : nx f n (t + (d + 1)) = 2 * nx f n (t + d) + cntS f ((t + d + 1 : Nat) : Int) n := rfl
    rw [e, p2_succ, Int.mul_assoc]
    omega
theorem code_in {f : Nat → Int} {n i k : Nat} (hi : i < n) (hk : 1 ≤ k) (e : f i = (k : Int)) : 2 * nx f n (k - 1) ≤ codeOf f n i ∧ codeOf f n i < nx f n k := by
  unfold codeOf
  rw [if_neg (by omega), e, Int.toNat_natCast, ← nx_step f n k hk]
  have h1 := cntS_bd f (k : Int) i
  have h2 := cntS_lt f (k : Int) hi e
  omega
theorem code_inj {f : Nat → Int} {n i j : Nat} (_hi : i < n) (_hj : j < n) (hp : 0 < f i) (e : f i = f j) (h : codeOf f n i = codeOf f n j) : i = j := by
  unfold codeOf at h
  rw [if_neg (by omega), if_neg (by omega), e] at h
  rcases Nat.lt_trichotomy i j with q | q | q
  · have := cntS_lt f (f j) q e
    omega
  · exact q
  · have := cntS_lt f (f j) q rfl
    omega
/-- No code begins another one. -/
theorem prefix_free {f : Nat → Int} {n i j k d : Nat} (hi : i < n) (hj : j < n) (hk : 1 ≤ k) (ei : f i = (k : Int)) (ej : f j = ((k + d : Nat) : Int)) (h : codeOf f n j / p2 d = codeOf f n i) : i = j := by
  have hpd := p2_pos d
  rcases Nat.eq_zero_or_pos d with rfl | hd
  · rw [p2_zero, Int.ediv_one] at h
    exact code_inj hi hj (by omega) (by rw [ei, ej]; simp) h.symm
  · exfalso
    have h1 := code_in hi hk ei
    have h2 := code_in hj (show 1 ≤ k + d by omega) ej
    have h3 := nx_ge f n k (d - 1)
    have e2 : k + d - 1 = k + (d - 1) := by omega
    rw [e2] at h2
    have e3 : p2 d = 2 * p2 (d - 1) := by
      have : d = d - 1 + 1 := by omega
      rw [this, p2_succ]
      simp
    have h4 : p2 d * nx f n k ≤ codeOf f n j := by
      rw [e3, Int.mul_assoc]
      omega
    have h5 : nx f n k ≤ codeOf f n j / p2 d := by
      rw [Int.le_ediv_iff_mul_le (by omega), Int.mul_comm]
      exact h4
    omega

/-- The room is the number behind the last code. -/
def part (s : Nat) (x : Int) : Int := if 1 ≤ x ∧ x ≤ (s : Int) then p2 (s - x.toNat) else 0
theorem nx_add (f : Nat → Int) (n : Nat) : ∀ s, nx f (n + 1) s = nx f n s + part s (f n)
  | 0 => by
    show (0 : Int) = 0 + part 0 (f n)
    unfold part
    rw [if_neg (by omega)]
    rfl
  | s + 1 => by
    show 2 * nx f (n + 1) s + (cntS f ((s + 1 : Nat) : Int) n + (if f n = ((s + 1 : Nat) : Int) then 1 else 0)) = 2 * nx f n s + cntS f ((s + 1 : Nat) : Int) n + part (s + 1) (f n)
    rw [nx_add f n s]
    unfold part
    by_cases h1 : 1 ≤ f n ∧ f n ≤ (s : Int)
    · rw [if_pos h1, if_neg (by omega), if_pos (by omega), show s + 1 - (f n).toNat = s - (f n).toNat + 1 by omega, p2_succ]
      omega
    · by_cases h2 : f n = ((s + 1 : Nat) : Int)
      · rw [if_neg h1, if_pos h2, if_pos (by omega), show s + 1 - (f n).toNat = 0 by omega, p2_zero]
        omega
      · rw [if_neg h1, if_neg h2, if_neg (by omega)]
        omega
theorem room_nx (f : Nat → Int) : ∀ n, OkLens f n → room f n = nx f n 15
  | 0, _ => by
    have e : ∀ s, nx f 0 s = 0 := by
      intro s
      induction s with
      | zero => rfl
      | succ s ih => show 2 * nx f 0 s + 0 = 0; omega
    rw [e]
    rfl
  | n + 1, h => by
    have hn := h n (by omega)
    rw [nx_add, ← room_nx f n (fun i hi => h i (by omega))]
    show room f n + (if 0 < f n then p2 (15 - f n).toNat else 0) = room f n + part 15 (f n)
    unfold part
    by_cases hp : 0 < f n
    · rw [if_pos hp, if_pos (by omega), show (15 - f n).toNat = 15 - (f n).toNat by omega]
    · rw [if_neg hp, if_neg (by omega)]
theorem nx_le {f : Nat → Int} {n : Nat} (h : Coded f n) (k : Nat) (hk : k ≤ 15) : nx f n k ≤ p2 k := by
  obtain ⟨_, h2, h3⟩ := h
  rw [room_nx f n h2] at h3
  have h4 := nx_ge f n k (15 - k)
  rw [show k + (15 - k) = 15 by omega] at h4
  have e : p2 15 = p2 (15 - k) * p2 k := by rw [← p2_add, show 15 - k + k = 15 by omega]
  have e2 : p2 15 = 32768 := by decide +kernel
  have hp := p2_pos (15 - k)
  exact Int.le_of_mul_le_mul_left (by omega) (show 0 < p2 (15 - k) by omega)
theorem code_lt {f : Nat → Int} {n i : Nat} (h : Coded f n) (hi : i < n) : 0 ≤ codeOf f n i ∧ codeOf f n i < p2 (f i).toNat := by
  have hok := h.2.1 i hi
  by_cases hp : 0 < f i
  · have h1 := code_in hi (show 1 ≤ (f i).toNat by omega) (show f i = ((f i).toNat : Int) by omega)
    have h2 := nx_le h (f i).toNat (by omega)
    have h3 := (nx_bd f n h.1 ((f i).toNat - 1)).1
    omega
  · unfold codeOf
    rw [if_pos (by omega)]
    have := p2_pos (f i).toNat
    omega

/-- Symbol i, of length k, is what comes next. -/
def Hit (f : Nat → Int) (n : Nat) (s : ByteArray) (a : Nat) (i k : Nat) : Prop := i < n ∧ 1 ≤ k ∧ f i = (k : Int) ∧ codeOf f n i = hi s a k ∧ a + k ≤ 8 * s.size
theorem hit_le {f : Nat → Int} {n : Nat} {s : ByteArray} {a i k j l : Nat} (h : Hit f n s a i k) (h' : Hit f n s a j l) (hkl : k ≤ l) : i = j ∧ k = l := by
  obtain ⟨h1, h2, h3, h4, h5⟩ := h
  obtain ⟨g1, g2, g3, g4, g5⟩ := h'
  obtain ⟨d, rfl⟩ := Nat.exists_eq_add_of_le hkl
  have e : i = j := prefix_free h1 g1 h2 h3 g3 (by rw [g4, h4, hi_div])
  subst e
  exact ⟨rfl, by omega⟩
theorem hit_one {f : Nat → Int} {n : Nat} {s : ByteArray} {a i k j l : Nat} (h : Hit f n s a i k) (h' : Hit f n s a j l) : i = j ∧ k = l := by
  rcases Nat.le_total k l with q | q
  · exact hit_le h h' q
  · have := hit_le h' h q
    exact ⟨this.1.symm, this.2.symm⟩

end HitMath
open OutMath CodeMath TakeMath HitMath

/-- Symbol i, of length k, comes next in these Bits. -/
def Next (f : Nat → Int) (n : Nat) (s : ByteArray) (a : Int) (i k : Nat) : Prop := s.size ≤ 12000 ∧ 0 ≤ a ∧ Hit f n s a.toNat i k

theorem next_no {f : Nat → Int} {n : Nat} {s : ByteArray} {a : Int} {j k : Nat} (h : ¬ (f j ≠ 0 ∧ (k : Int) ≤ f j ∧ codeOf f n j / p2 (f j - k).toNat = hi s a.toNat k)) : ∀ l, k ≤ l → ¬ Next f n s a j l := by
  rintro l hl ⟨_, _, _, h2, h3, h4, _⟩
  obtain ⟨d, rfl⟩ := Nat.exists_eq_add_of_le hl
  refine h ⟨by omega, by omega, ?_⟩
  rw [show (f j - (k : Int)).toNat = d by omega, h4, hi_div]

end Go.Proofs.Ytaajieeenjdnbaa
