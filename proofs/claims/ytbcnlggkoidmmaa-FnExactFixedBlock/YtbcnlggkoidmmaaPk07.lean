/-
  Lengths and distances by their symbols, in plain numbers: steps that grow. Nothing here speaks of the program.
  Unpacking, in plain numbers: what comes of a packed text, or which code is met first. Nothing here speaks of the program.
  The fixed codes: that they are codes, and what a block of type 1 is. Nothing here speaks of the program.
-/
import Derived.Test.YtbcnlggkoidmmaaPk01
import Derived.Test.YtbcnlggkoidmmaaPk05
import Derived.Test.YtbcnlggkoidmmaaPk03
import Derived.Test.YtbcnlggkoidmmaaPk06
namespace Go.Proofs.Ytbcnlggkoidmmaa.StepMath

/-- How many extra bits the step j has, where each k steps have one more. -/
def bitsN (k j : Nat) : Nat := (j - k) / k
/-- The least number of the step j. -/
def fromN (c k : Nat) : Nat → Nat
  | 0 => c
  | j + 1 => fromN c k j + 2 ^ bitsN k j
/-- The last step below m that begins at n or ahead of it. -/
def findN (c k n : Nat) : Nat → Nat
  | 0 => 0
  | m + 1 => if fromN c k m ≤ n then m else findN c k n m
theorem pow_pos2 (j : Nat) : 1 ≤ 2 ^ j := Nat.one_le_two_pow
theorem from_lt (c k j : Nat) : fromN c k j < fromN c k (j + 1) := by
  have := pow_pos2 (bitsN k j)
  show fromN c k j < fromN c k j + 2 ^ bitsN k j
  omega
theorem from_mono (c k : Nat) : ∀ d i, fromN c k i ≤ fromN c k (i + d)
  | 0, _ => Nat.le_refl _
  | d + 1, i => Nat.le_trans (from_mono c k d i) (Nat.le_of_lt (from_lt c k (i + d)))
theorem from_le {c k i j : Nat} (h : i ≤ j) : fromN c k i ≤ fromN c k j := by
  obtain ⟨d, rfl⟩ := Nat.exists_eq_add_of_le h
  exact from_mono c k d i
theorem find_spec {c k n : Nat} (hc : c ≤ n) : ∀ m, 0 < m → findN c k n m < m ∧ fromN c k (findN c k n m) ≤ n ∧ ∀ j, findN c k n m < j → j < m → n < fromN c k j
  | 0, h => by omega
  | m + 1, _ => by
    unfold findN
    split
    · rename_i h
      exact ⟨by omega, h, fun j h1 h2 => by omega⟩
    · rename_i h
      rcases Nat.eq_zero_or_pos m with h0 | h0
      · subst h0
        exact absurd hc h
      · obtain ⟨q1, q2, q3⟩ := find_spec (c := c) (k := k) hc m h0
        refine ⟨by omega, q2, fun j h1 h2 => ?_⟩
        rcases Nat.lt_or_ge j m with h3 | h3
        · exact q3 j h1 h3
        · have : j = m := by omega
          subst this
          omega
/-- The step is told by its ends. -/
theorem find_told {c k n m j : Nat} (h1 : fromN c k j ≤ n) (h2 : n < fromN c k (j + 1)) (hj : j < m) (hc : c ≤ n) : findN c k n m = j := by
  obtain ⟨q1, q2, q3⟩ := find_spec (c := c) (k := k) hc m (by omega)
  rcases Nat.lt_trichotomy (findN c k n m) j with h | h | h
  · have := q3 j h hj
    omega
  · exact h
  · have := from_le (c := c) (k := k) (show j + 1 ≤ findN c k n m from h)
    omega
theorem find_in {c k n m : Nat} (hc : c ≤ n) (hm : n < fromN c k m) : findN c k n m < m ∧ fromN c k (findN c k n m) ≤ n ∧ n < fromN c k (findN c k n m + 1) := by
  have h0 : 0 < m := by
    rcases Nat.eq_zero_or_pos m with h | h
    · subst h
      have : n < c := hm
      omega
    · exact h
  obtain ⟨q1, q2, q3⟩ := find_spec (c := c) (k := k) hc m h0
  refine ⟨q1, q2, ?_⟩
  rcases Nat.lt_or_ge (findN c k n m + 1) m with h | h
  · exact q3 _ (Nat.lt_succ_self _) h
  · have : findN c k n m + 1 = m := by omega
    rw [this]
    exact hm
theorem find_extra {c k n m : Nat} (hc : c ≤ n) (hm : n < fromN c k m) : n - fromN c k (findN c k n m) < 2 ^ bitsN k (findN c k n m) := by
  obtain ⟨_, h1, h2⟩ := find_in hc hm
  have : fromN c k (findN c k n m + 1) = fromN c k (findN c k n m) + 2 ^ bitsN k (findN c k n m) := rfl
  omega
/-- The steps rise by one at most. -/
theorem find_next {c k n m : Nat} (hc : c ≤ n) (hm : n + 1 < fromN c k m) : findN c k (n + 1) m = findN c k n m ∨ findN c k (n + 1) m = findN c k n m + 1 := by
  obtain ⟨h0, h1, h2⟩ := find_in (k := k) (m := m) hc (by omega)
  rcases Nat.lt_or_ge (n + 1) (fromN c k (findN c k n m + 1)) with h | h
  · exact .inl (find_told (by omega) h h0 (by omega))
  · right
    have h3 : n + 1 < fromN c k (findN c k n m + 1 + 1) := by
      have := from_lt c k (findN c k n m + 1)
      omega
    have h4 : findN c k n m + 1 < m := by
      rcases Nat.lt_or_ge (findN c k n m + 1) m with q | q
      · exact q
      · have := from_le (c := c) (k := k) q
        omega
    exact find_told h h3 h4 (by omega)
theorem find_step (c k n m : Nat) : findN c k n (m + 1) = if fromN c k m ≤ n then m else findN c k n m := rfl

/-! Lengths: steps of 4 from 3 on; the 28th would begin at 259. Distances: steps of 2 from 1 on; the 30th would begin at 32769. -/
theorem len_8 : fromN 3 4 8 = 11 := by decide
theorem len_28 : fromN 3 4 28 = 259 := by decide
theorem dist_4 : fromN 1 2 4 = 5 := by decide
theorem dist_30 : fromN 1 2 30 = 32769 := by decide
theorem len_small : ∀ j, j ≤ 8 → fromN 3 4 j = 3 + j ∧ bitsN 4 j ≤ 1 := by decide
theorem dist_small : ∀ j, j ≤ 4 → fromN 1 2 j = 1 + j ∧ bitsN 2 j ≤ 1 := by decide
theorem len_bits : ∀ j, j < 28 → bitsN 4 j ≤ 5 ∧ (j < 8 → bitsN 4 j = 0) := by decide
theorem dist_bits : ∀ j, j < 30 → bitsN 2 j ≤ 13 ∧ (j < 4 → bitsN 2 j = 0) := by decide
theorem len_257 : findN 3 4 257 28 = 27 := by decide

/-- The symbol of a length, its extra bits, and what they are. -/
def lenCode (n : Nat) : Nat × Nat × Nat := if n < 258 then (257 + findN 3 4 n 28, bitsN 4 (findN 3 4 n 28), n - fromN 3 4 (findN 3 4 n 28)) else (285, 0, 0)
/-- Of a symbol its extra bits and the least length. -/
def lenBits (s : Nat) : Nat × Nat := if s = 285 then (0, 258) else (bitsN 4 (s - 257), fromN 3 4 (s - 257))
def distCode (n : Nat) : Nat × Nat × Nat := (findN 1 2 n 30, bitsN 2 (findN 1 2 n 30), n - fromN 1 2 (findN 1 2 n 30))
def distBits (s : Nat) : Nat × Nat := (bitsN 2 s, fromN 1 2 s)
/-- What the functions answer, at every number. -/
def LengthCodeOf (n : Int) : Int × Int × Int := if 3 ≤ n ∧ n ≤ 258 then (((lenCode n.toNat).1 : Int), ((lenCode n.toNat).2.1 : Int), ((lenCode n.toNat).2.2 : Int)) else (0, 0, 0)
def DistCodeOf (n : Int) : Int × Int × Int := if 1 ≤ n ∧ n ≤ 32768 then (((distCode n.toNat).1 : Int), ((distCode n.toNat).2.1 : Int), ((distCode n.toNat).2.2 : Int)) else (0, 0, 0)
def LengthOfR (s x : Int) : Int × Bool := if (257 ≤ s ∧ s ≤ 285) ∧ 0 ≤ x ∧ x < 2 ^ (lenBits s.toNat).1 then (((lenBits s.toNat).2 : Int) + x, true) else (0, false)
def DistOfR (s x : Int) : Int × Bool := if (0 ≤ s ∧ s ≤ 29) ∧ 0 ≤ x ∧ x < 2 ^ (distBits s.toNat).1 then (((distBits s.toNat).2 : Int) + x, true) else (0, false)

theorem len_fact {n : Nat} (h3 : 3 ≤ n) (h : n < 258) : findN 3 4 n 28 < 28 ∧ fromN 3 4 (findN 3 4 n 28) ≤ n ∧ n - fromN 3 4 (findN 3 4 n 28) < 2 ^ bitsN 4 (findN 3 4 n 28) := by
  have h1 := len_28
  have h2 := find_in (c := 3) (k := 4) (n := n) (m := 28) h3 (by omega)
  exact ⟨h2.1, h2.2.1, find_extra h3 (by omega)⟩
theorem dist_fact {n : Nat} (h1 : 1 ≤ n) (h : n ≤ 32768) : findN 1 2 n 30 < 30 ∧ fromN 1 2 (findN 1 2 n 30) ≤ n ∧ n - fromN 1 2 (findN 1 2 n 30) < 2 ^ bitsN 2 (findN 1 2 n 30) := by
  have h2 := dist_30
  have h3 := find_in (c := 1) (k := 2) (n := n) (m := 30) h1 (by omega)
  exact ⟨h3.1, h3.2.1, find_extra h1 (by omega)⟩
theorem pow_cast (m : Nat) : ((2 ^ m : Nat) : Int) = (2 : Int) ^ m := by
  induction m with
  | zero => rfl
  | succ m ih => rw [Nat.pow_succ, Int.pow_succ, Int.natCast_mul, ih]; rfl

/-- Each length comes back from its symbol and extra bits. -/
theorem len_back {n : Int} (h3 : 3 ≤ n) (h : n ≤ 258) : LengthOfR (LengthCodeOf n).1 (LengthCodeOf n).2.2 = (n, true) ∧ 0 ≤ (LengthCodeOf n).2.2 ∧ (LengthCodeOf n).2.2 < 2 ^ (LengthCodeOf n).2.1.toNat ∧ 257 ≤ (LengthCodeOf n).1 ∧ (LengthCodeOf n).1 ≤ 285 ∧ 0 ≤ (LengthCodeOf n).2.1 ∧ (LengthCodeOf n).2.1 ≤ 5 := by
  obtain ⟨m, rfl⟩ := Int.eq_ofNat_of_zero_le (show 0 ≤ n by omega)
  unfold LengthCodeOf
  rw [if_pos ⟨h3, h⟩, Int.toNat_natCast]
  unfold lenCode
  split
  · rename_i hlt
    obtain ⟨f1, f2, f3⟩ := len_fact (show 3 ≤ m by omega) hlt
    have f4 := len_bits _ f1
    have f5 := pow_cast (bitsN 4 (findN 3 4 m 28))
    have e1 : ((257 + findN 3 4 m 28 : Nat) : Int).toNat = 257 + findN 3 4 m 28 := Int.toNat_natCast _
    have e2 : lenBits (257 + findN 3 4 m 28) = (bitsN 4 (findN 3 4 m 28), fromN 3 4 (findN 3 4 m 28)) := by
      unfold lenBits
      rw [if_neg (by omega), Nat.add_sub_cancel_left]
    refine ⟨?_, ?_, ?_, ?_, ?_, ?_, ?_⟩
    · show LengthOfR ((257 + findN 3 4 m 28 : Nat) : Int) ((m - fromN 3 4 (findN 3 4 m 28) : Nat) : Int) = _
      unfold LengthOfR
      rw [e1, e2, if_pos ⟨by omega, by omega, by show ((m - fromN 3 4 (findN 3 4 m 28) : Nat) : Int) < 2 ^ bitsN 4 (findN 3 4 m 28); omega⟩]
      show (((fromN 3 4 (findN 3 4 m 28) : Nat) : Int) + ((m - fromN 3 4 (findN 3 4 m 28) : Nat) : Int), true) = _
      congr 1
      omega
    · show (0 : Int) ≤ ((m - fromN 3 4 (findN 3 4 m 28) : Nat) : Int)
      omega
    · show ((m - fromN 3 4 (findN 3 4 m 28) : Nat) : Int) < 2 ^ ((bitsN 4 (findN 3 4 m 28) : Nat) : Int).toNat
      rw [Int.toNat_natCast]
      omega
    · show (257 : Int) ≤ ((257 + findN 3 4 m 28 : Nat) : Int)
      omega
    · show ((257 + findN 3 4 m 28 : Nat) : Int) ≤ 285
      omega
    · show (0 : Int) ≤ ((bitsN 4 (findN 3 4 m 28) : Nat) : Int)
      omega
    · show ((bitsN 4 (findN 3 4 m 28) : Nat) : Int) ≤ 5
      omega
  · rename_i hlt
    obtain rfl : m = 258 := by omega
    refine ⟨by decide, by decide, by decide, by decide, by decide, by decide, by decide⟩
theorem dist_back {n : Int} (h1 : 1 ≤ n) (h : n ≤ 32768) : DistOfR (DistCodeOf n).1 (DistCodeOf n).2.2 = (n, true) ∧ 0 ≤ (DistCodeOf n).2.2 ∧ (DistCodeOf n).2.2 < 2 ^ (DistCodeOf n).2.1.toNat ∧ 0 ≤ (DistCodeOf n).1 ∧ (DistCodeOf n).1 ≤ 29 ∧ 0 ≤ (DistCodeOf n).2.1 ∧ (DistCodeOf n).2.1 ≤ 13 := by
  obtain ⟨m, rfl⟩ := Int.eq_ofNat_of_zero_le (show 0 ≤ n by omega)
  unfold DistCodeOf
  rw [if_pos ⟨h1, h⟩, Int.toNat_natCast]
  unfold distCode
  obtain ⟨f1, f2, f3⟩ := dist_fact (show 1 ≤ m by omega) (show m ≤ 32768 by omega)
  have f4 := dist_bits _ f1
  have f5 := pow_cast (bitsN 2 (findN 1 2 m 30))
  refine ⟨?_, ?_, ?_, ?_, ?_, ?_, ?_⟩
  · show DistOfR ((findN 1 2 m 30 : Nat) : Int) ((m - fromN 1 2 (findN 1 2 m 30) : Nat) : Int) = _
    unfold DistOfR
    rw [Int.toNat_natCast, if_pos ⟨by omega, by omega, by show ((m - fromN 1 2 (findN 1 2 m 30) : Nat) : Int) < 2 ^ bitsN 2 (findN 1 2 m 30); omega⟩]
    show (((fromN 1 2 (findN 1 2 m 30) : Nat) : Int) + ((m - fromN 1 2 (findN 1 2 m 30) : Nat) : Int), true) = _
    congr 1
    omega
  · show (0 : Int) ≤ ((m - fromN 1 2 (findN 1 2 m 30) : Nat) : Int)
    omega
  · show ((m - fromN 1 2 (findN 1 2 m 30) : Nat) : Int) < 2 ^ ((bitsN 2 (findN 1 2 m 30) : Nat) : Int).toNat
    rw [Int.toNat_natCast]
    omega
  · show (0 : Int) ≤ ((findN 1 2 m 30 : Nat) : Int)
    omega
  · show ((findN 1 2 m 30 : Nat) : Int) ≤ 29
    omega
  · show (0 : Int) ≤ ((bitsN 2 (findN 1 2 m 30) : Nat) : Int)
    omega
  · show ((bitsN 2 (findN 1 2 m 30) : Nat) : Int) ≤ 13
    omega
/-- The symbols rise with them. -/
theorem len_rise {n : Int} (h3 : 3 ≤ n) (h : n < 258) : (LengthCodeOf (n + 1)).1 = (LengthCodeOf n).1 ∨ (LengthCodeOf (n + 1)).1 = (LengthCodeOf n).1 + 1 := by
  obtain ⟨m, rfl⟩ := Int.eq_ofNat_of_zero_le (show 0 ≤ n by omega)
  have e : ((m : Int) + 1).toNat = m + 1 := by omega
  unfold LengthCodeOf
  rw [if_pos (by omega), if_pos (by omega), e, Int.toNat_natCast]
  unfold lenCode
  rw [if_pos (show m < 258 by omega)]
  by_cases h1 : m + 1 < 258
  · rw [if_pos h1]
    have h2 := len_28
    rcases find_next (c := 3) (k := 4) (n := m) (m := 28) (by omega) (by omega) with q | q
    · left
      show ((257 + findN 3 4 (m + 1) 28 : Nat) : Int) = ((257 + findN 3 4 m 28 : Nat) : Int)
      rw [q]
    · right
      show ((257 + findN 3 4 (m + 1) 28 : Nat) : Int) = ((257 + findN 3 4 m 28 : Nat) : Int) + 1
      rw [q]
      omega
  · obtain rfl : m = 257 := by omega
    rw [if_neg h1]
    right
    show ((285 : Nat) : Int) = ((257 + findN 3 4 257 28 : Nat) : Int) + 1
    rw [len_257]
    rfl
theorem dist_rise {n : Int} (h1 : 1 ≤ n) (h : n < 32768) : (DistCodeOf (n + 1)).1 = (DistCodeOf n).1 ∨ (DistCodeOf (n + 1)).1 = (DistCodeOf n).1 + 1 := by
  obtain ⟨m, rfl⟩ := Int.eq_ofNat_of_zero_le (show 0 ≤ n by omega)
  have e : ((m : Int) + 1).toNat = m + 1 := by omega
  unfold DistCodeOf
  rw [if_pos (by omega), if_pos (by omega), e, Int.toNat_natCast]
  unfold distCode
  have h2 := dist_30
  rcases find_next (c := 1) (k := 2) (n := m) (m := 30) (by omega) (by omega) with q | q
  · left
    show ((findN 1 2 (m + 1) 30 : Nat) : Int) = ((findN 1 2 m 30 : Nat) : Int)
    rw [q]
  · right
    show ((findN 1 2 (m + 1) 30 : Nat) : Int) = ((findN 1 2 m 30 : Nat) : Int) + 1
    rw [q]
    omega

end Go.Proofs.Ytbcnlggkoidmmaa.StepMath

namespace Go.Proofs.Ytbcnlggkoidmmaa.InfMath
open OutMath CodeMath TakeMath HitMath WayMath StepMath TokMath RunsMath

section
variable (s : ByteArray) (most : Nat)
/-- The next n bits, and the place behind them. -/
def takeE (p n : Nat) : Except Nat (Int × Nat) := if p + n ≤ 8 * s.size then .ok (num s p n, p + n) else .error 2
/-- The next symbol of a code, and the place behind it. -/
noncomputable def symE (f : Nat → Int) (n p : Nat) : Except Nat (Nat × Nat) := if (symW f n s p).2.2 = 0 then .ok ((symW f n s p).1, p + (symW f n s p).2.1) else if (symW f n s p).2.2 = 2 then .error 2 else .error 6
def bytesAt (p n : Nat) : List Int := (List.range n).map fun i => num s (p + 8 * i) 8
/-- The next whole byte. -/
def wholeAt (p : Nat) : Nat := 8 * ((p + 7) / 8)
/-- A block of type 0. -/
def storedE (p : Nat) (O : List Int) : Except Nat (List Int × Nat) :=
  if wholeAt p + 32 ≤ 8 * s.size then
    (if num s (wholeAt p) 16 + num s (wholeAt p + 16) 16 ≠ 65535 then .error 4
     else if (most : Int) - O.length < num s (wholeAt p) 16 then .error 8
     else if wholeAt p + 32 + 8 * (num s (wholeAt p) 16).toNat ≤ 8 * s.size then .ok (O ++ bytesAt s (wholeAt p + 32) (num s (wholeAt p) 16).toNat, wholeAt p + 32 + 8 * (num s (wholeAt p) 16).toNat)
     else .error 2)
  else .error 2
/-- In which order the lengths of the third code come. -/
def orderL : List Nat := [16, 17, 18, 0, 8, 7, 9, 6, 10, 5, 11, 4, 12, 3, 13, 2, 14, 1, 15]
/-- The third code's lengths, when k have come. -/
def thirdF (p k : Nat) : Nat → Int := fun i => if orderL.idxOf i < k then num s (p + 3 * orderL.idxOf i) 3 else 0
/-- Runs by the third code, up to N lengths. -/
noncomputable def allF (f3 : Nat → Int) (N : Nat) : Nat → Nat → List Int → Except Nat (List Int × Nat)
  | 0, _, _ => .error 9
  | m + 1, p, L => if L.length < N then
      match symE s f3 19 p with
      | .error x => .error x
      | .ok (y, p1) => match takeE s p1 (bitsOf (y : Int)) with
        | .error x => .error x
        | .ok (x, p2) => match tell L ((y : Int), x) with
          | none => .error 5
          | some more => if L.length + more.length ≤ N then allF f3 N m p2 (L ++ more) else .error 5
    else .ok (L, p)
/-- What the lengths must be. -/
def TabRight (n : Nat) (L : List Int) : Prop := (kindOf (fun i => L.getD i 0) n = 2 ∨ kindOf (fun i => L.getD i 0) n = 3) ∧ L.getD 256 0 ≠ 0 ∧ (kindOf (fun i => (L.drop n).getD i 0) (L.length - n) = 1 ∨ kindOf (fun i => (L.drop n).getD i 0) (L.length - n) = 2 ∨ kindOf (fun i => (L.drop n).getD i 0) (L.length - n) = 3)
instance (n : Nat) (L : List Int) : Decidable (TabRight n L) := by unfold TabRight; exact inferInstance
/-- The lengths of both codes of a block of type 2, one behind the other; how many the first has; the place behind them. -/
noncomputable def tablesE (p : Nat) : Except Nat (List Int × Nat × Nat) :=
  if p + 14 ≤ 8 * s.size then
    (if 29 < num s p 5 ∨ 29 < num s (p + 5) 5 then .error 5
     else if p + 14 + 3 * (num s (p + 10) 4 + 4).toNat ≤ 8 * s.size then
       (if kindOf (thirdF s (p + 14) (num s (p + 10) 4 + 4).toNat) 19 ≠ 2 then .error 5
        else match allF s (thirdF s (p + 14) (num s (p + 10) 4 + 4).toNat) ((num s p 5 + 257).toNat + (num s (p + 5) 5 + 1).toNat) (8 * s.size + 1) (p + 14 + 3 * (num s (p + 10) 4 + 4).toNat) [] with
          | .error x => .error x
          | .ok (L, p2) => if TabRight (num s p 5 + 257).toNat L then .ok (L, (num s p 5 + 257).toNat, p2) else .error 5)
     else .error 2)
  else .error 2
/-- The symbols of a block. -/
noncomputable def symbolsF (f1 : Nat → Int) (n1 : Nat) (f2 : Nat → Int) (n2 : Nat) : Nat → Nat → List Int → Except Nat (List Int × Nat)
  | 0, _, _ => .error 9
  | m + 1, p, O => match symE s f1 n1 p with
    | .error x => .error x
    | .ok (y, p1) =>
      if y = 256 then .ok (O, p1)
      else if y < 256 then (if O.length = most then .error 8 else symbolsF f1 n1 f2 n2 m p1 (O ++ [(y : Int)]))
      else if 285 < y then .error 6
      else match takeE s p1 (lenBits y).1 with
        | .error x => .error x
        | .ok (x, p2) => match symE s f2 n2 p2 with
          | .error x => .error x
          | .ok (q, p3) =>
            if 29 < q then .error 6
            else match takeE s p3 (distBits q).1 with
              | .error x => .error x
              | .ok (z, p4) =>
                if (O.length : Int) < (distBits q).2 + z then .error 7
                else if (most : Int) - O.length < (lenBits y).2 + x then .error 8
                else symbolsF f1 n1 f2 n2 m p4 (copyN ((distBits q).2 + z).toNat ((lenBits y).2 + x).toNat O)
/-- The lengths of type 1. -/
def fixed1 (i : Nat) : Int := if i < 144 then 8 else if i < 256 then 9 else if i < 280 then 7 else 8
def fixed2 (_ : Nat) : Int := 5
/-- What stands in a block, behind its first three bits. -/
noncomputable def blockE (kind : Int) (p : Nat) (O : List Int) : Except Nat (List Int × Nat) :=
  if kind = 0 then storedE s most p O
  else if kind = 1 then symbolsF s most fixed1 288 fixed2 32 (8 * s.size + 1) p O
  else if kind = 2 then (match tablesE s p with
    | .error x => .error x
    | .ok (L, n, p2) => symbolsF s most (fun i => L.getD i 0) n (fun i => (L.drop n).getD i 0) (L.length - n) (8 * s.size + 1) p2 O)
  else .error 3
/-- The blocks. -/
noncomputable def blocksF : Nat → Nat → List Int → List Int → Except Nat (List Int × Nat × List Int)
  | 0, _, _, _ => .error 9
  | m + 1, p, O, Ty => if p + 3 ≤ 8 * s.size then
      match blockE s most (num s (p + 1) 2) (p + 3) O with
      | .error x => .error x
      | .ok (O', p') => if num s p 1 = 0 then blocksF m p' O' (Ty ++ [num s (p + 1) 2]) else .ok (O', p', Ty ++ [num s (p + 1) 2])
    else .error 2
end
/-- What is asked of Inflate. -/
noncomputable def inflateE (s : ByteArray) (most : Int) : Except Nat (List Int × Nat × List Int) := if s.size ≤ 12000 ∧ 0 ≤ most ∧ most ≤ 12000 then blocksF s most.toNat (8 * s.size + 1) 0 [] [] else .error 1

end Go.Proofs.Ytbcnlggkoidmmaa.InfMath

namespace Go.Proofs.Ytbcnlggkoidmmaa
open CodeMath InfMath

theorem fixed1_coded : Coded fixed1 288 := by
  refine ⟨by decide, fun i _ => ?_, ?_⟩
  · unfold fixed1
    repeat' split
    all_goals omega
  · decide +kernel
theorem fixed2_coded : Coded fixed2 32 := by
  refine ⟨by decide, fun i _ => ?_, ?_⟩
  · unfold fixed2
    omega
  · decide +kernel
end Go.Proofs.Ytbcnlggkoidmmaa
