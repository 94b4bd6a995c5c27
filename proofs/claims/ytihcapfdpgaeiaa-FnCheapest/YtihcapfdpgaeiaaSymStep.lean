/-
  The symbols of lengths and distances as the program tells them: by the number's own bits. Nothing here speaks of the program.
-/
import Derived.Test.YtihcapfdpgaeiaaStepMath
import Derived.Lib.BitFns
namespace Go.Proofs.Ytihcapfdpgaeiaa
open Go.Proofs StepMath

theorem bit_len_of {n c : Nat} (h1 : 2 ^ (c + 1) ≤ n) (h2 : n < 2 ^ (c + 2)) (h : n < 18446744073709551616) : Lib.bitLen n = c + 2 := by
  rw [Lib.bitLen_shift (c + 1) n h1 h]
  have hp := Nat.two_pow_pos (c + 1)
  have e : n / 2 ^ (c + 1) = 1 := by
    rw [Nat.pow_succ 2 (c + 1)] at h2
    exact Nat.div_eq_of_lt_le (by omega) (by omega)
  rw [e]
  rfl
theorem len_sym : ∀ n, n < 255 → lenCode (n + 3) = (257 + ((Lib.bitLen n - 3) * 4 + n / 2 ^ (Lib.bitLen n - 3)), Lib.bitLen n - 3, n % 2 ^ (Lib.bitLen n - 3)) ∧ Lib.bitLen n ≤ 8 := by decide +kernel
theorem dist_first : ∀ n, n < 4 → distCode (n + 1) = ((Lib.bitLen n - 2) * 2 + n / 2 ^ (Lib.bitLen n - 2), Lib.bitLen n - 2, n % 2 ^ (Lib.bitLen n - 2)) ∧ Lib.bitLen n ≤ 15 := by decide +kernel
theorem dist_from : ∀ c, c < 14 → fromN 1 2 (c * 2 + 2) = 1 + 2 * 2 ^ c ∧ fromN 1 2 (c * 2 + 3) = 1 + 3 * 2 ^ c ∧ fromN 1 2 (c * 2 + 4) = 1 + 4 * 2 ^ c ∧ bitsN 2 (c * 2 + 2) = c ∧ bitsN 2 (c * 2 + 3) = c := by decide +kernel
theorem dist_more {n c : Nat} (hc : c < 14) (h1 : 2 ^ (c + 1) ≤ n) (h2 : n < 2 ^ (c + 2)) : distCode (n + 1) = (c * 2 + n / 2 ^ c, c, n % 2 ^ c) := by
  obtain ⟨f2, f3, f4, b2, b3⟩ := dist_from c hc
  have e1 : 2 ^ (c + 1) = 2 * 2 ^ c := by rw [Nat.pow_succ, Nat.mul_comm]
  have e2 : 2 ^ (c + 2) = 4 * 2 ^ c := by rw [Nat.pow_succ, Nat.pow_succ]; omega
  rw [e1] at h1
  rw [e2] at h2
  have hp := Nat.two_pow_pos c
  have hm := Nat.div_add_mod n (2 ^ c)
  have hl := Nat.mod_lt n hp
  generalize 2 ^ c = p at *
  unfold distCode
  rcases Nat.lt_or_ge n (3 * p) with h | h
  · have hq : n / p = 2 := Nat.div_eq_of_lt_le (by omega) (by omega)
    rw [hq] at hm ⊢
    rw [find_told (j := c * 2 + 2) (by omega) (by show n + 1 < fromN 1 2 (c * 2 + 3); omega) (by omega) (by omega), b2, f2]
    congr 2
    omega
  · have hq : n / p = 3 := Nat.div_eq_of_lt_le (by omega) (by omega)
    rw [hq] at hm ⊢
    rw [find_told (j := c * 2 + 3) (by omega) (by show n + 1 < fromN 1 2 (c * 2 + 4); omega) (by omega) (by omega), b3, f3]
    congr 2
    omega
theorem dist_sym {n : Nat} (h : n < 32768) : distCode (n + 1) = ((Lib.bitLen n - 2) * 2 + n / 2 ^ (Lib.bitLen n - 2), Lib.bitLen n - 2, n % 2 ^ (Lib.bitLen n - 2)) ∧ Lib.bitLen n ≤ 15 := by
  rcases Nat.lt_or_ge n 4 with h4 | h4
  · exact dist_first n h4
  · have key : ∃ c, c < 14 ∧ 2 ^ (c + 1) ≤ n ∧ n < 2 ^ (c + 2) := by
      have : ∀ k, k < 14 → n < 2 ^ (k + 2) → ∃ c, c < 14 ∧ 2 ^ (c + 1) ≤ n ∧ n < 2 ^ (c + 2) := by
        intro k
        induction k with
        | zero => intro _ h; exact absurd h (by omega)
        | succ k ih =>
          intro hk hn
          rcases Nat.lt_or_ge n (2 ^ (k + 2)) with q | q
          · exact ih (by omega) q
          · exact ⟨k + 1, hk, q, hn⟩
      exact this 13 (by omega) h
    obtain ⟨c, hc, h1, h2⟩ := key
    have e := bit_len_of h1 h2 (by omega)
    have ec : Lib.bitLen n - 2 = c := by omega
    rw [ec]
    exact ⟨dist_more hc h1 h2, by omega⟩
/-- The least numbers of the symbols. -/
theorem len_least : ∀ j, j < 28 → lenBits (257 + j) = (j / 4 - 1, 3 + (j - (j / 4 - 1) * 4) * 2 ^ (j / 4 - 1)) ∧ j / 4 - 1 ≤ 5 := by decide +kernel
theorem dist_least : ∀ j, j < 30 → distBits j = (j / 2 - 1, 1 + (j - (j / 2 - 1) * 2) * 2 ^ (j / 2 - 1)) ∧ j / 2 - 1 ≤ 13 := by decide +kernel
end Go.Proofs.Ytihcapfdpgaeiaa
