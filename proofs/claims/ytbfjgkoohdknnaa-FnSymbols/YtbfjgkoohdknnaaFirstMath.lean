/-
  Plain facts on the first code of each length; nothing here speaks of the program.
-/
import Derived.Test.YtbfjgkoohdknnaaOutMath
import Derived.Test.YtbfjgkoohdknnaaCodeMath
import Derived.Test.YtbfjgkoohdknnaaFullMath
import Derived.WalkKit
namespace Go.Proofs.Ytbfjgkoohdknnaa
namespace CodeMath
open OutMath

/-- The first code of length s, by the counts g. -/
def first (g : Nat → Int) : Nat → Int
  | 0 => 0
  | 1 => 0
  | s + 2 => 2 * (first g (s + 1) + g (s + 1))
theorem first_nx (f : Nat → Int) (n : Nat) : ∀ s, 1 ≤ s → first (cs f n) s = 2 * nx f n (s - 1)
  | 0, h => by omega
  | 1, _ => rfl
  | s + 2, _ => by
    show 2 * (first (cs f n) (s + 1) + cs f n (s + 1)) = 2 * nx f n (s + 1)
    rw [first_nx f n (s + 1) (by omega)]
    show 2 * (2 * nx f n s + cs f n (s + 1)) = 2 * (2 * nx f n s + cntS f ((s + 1 : Nat) : Int) n)
    unfold cs
    rw [if_neg (by omega)]
theorem first_step (g : Nat → Int) (t : Nat) (h : 2 ≤ t) : first g t = 2 * (first g (t - 1) + g (t - 1)) := by
  obtain ⟨s, rfl⟩ : ∃ s, t = s + 2 := ⟨t - 2, by omega⟩
  rfl
theorem first_bd (g : Nat → Int) (hg : ∀ s, 0 ≤ g s ∧ g s ≤ 288) : ∀ s, 0 ≤ first g s ∧ first g s + 576 ≤ 576 * p2 s
  | 0 => by rw [p2_zero]; exact ⟨Int.le_refl _, by show (0 : Int) + 576 ≤ _; omega⟩
  | 1 => by
    have e : p2 1 = 2 := by decide +kernel
    rw [e]
    exact ⟨Int.le_refl _, by show (0 : Int) + 576 ≤ _; omega⟩
  | s + 2 => by
    have ih := first_bd g hg (s + 1)
    have h := hg (s + 1)
    show 0 ≤ 2 * (first g (s + 1) + g (s + 1)) ∧ 2 * (first g (s + 1) + g (s + 1)) + 576 ≤ _
    rw [p2_succ]
    omega
theorem first_lt (g : Nat → Int) (hg : ∀ s, 0 ≤ g s ∧ g s ≤ 288) (s : Nat) (hs : s ≤ 15) : 0 ≤ first g s ∧ first g s ≤ 18874368 := by
  have h := first_bd g hg s
  have h2 := p2_le hs
  have e : p2 15 = 32768 := by decide +kernel
  omega
/-- The first codes of the lengths below t. -/
def firstTo (g : Nat → Int) (t : Nat) : Nat → Int := fun s => if s < t then first g s else 0
theorem firstTo_start (g : Nat → Int) (s : Nat) : firstTo g 2 s = 0 := by
  unfold firstTo
  split
  · rename_i h
    rcases (show s = 0 ∨ s = 1 by omega) with rfl | rfl <;> rfl
  · rfl
/-- The next code of each length when the first i symbols have theirs. -/
def nextAt (f : Nat → Int) (n i : Nat) : Nat → Int := fun s => if s = 0 then 0 else 2 * nx f n (s - 1) + cntS f s i
theorem nextAt_start (f : Nat → Int) (n s : Nat) : first (cs f n) s = nextAt f n 0 s := by
  unfold nextAt
  by_cases h : s = 0
  · subst h; rfl
  · rw [if_neg h, first_nx f n s (by omega)]
    show _ = _ + 0
    omega
theorem nextAt_bd (f : Nat → Int) (n : Nat) (hn : n ≤ 288) (i : Nat) (hi : i ≤ n) (s : Nat) (hs : s ≤ 15) : 0 ≤ nextAt f n i s ∧ nextAt f n i s ≤ 20000000 := by
  unfold nextAt
  split
  · omega
  · have h := nx_lt f n hn (s - 1) (by omega)
    have c := cntS_bd f s i
    omega
theorem nextAt_code (f : Nat → Int) (n i s : Nat) (hs : 1 ≤ s) (e : f i = (s : Int)) : nextAt f n i s = codeOf f n i := by
  unfold nextAt codeOf
  rw [if_neg (by omega), if_neg (by omega), e, Int.toNat_natCast]
/-- What is written when the first i symbols have their codes. -/
def wrote (f : Nat → Int) (n i : Nat) : Nat → Int := fun j => if j < i then codeOf f n j else 0

end CodeMath
end Go.Proofs.Ytbfjgkoohdknnaa
