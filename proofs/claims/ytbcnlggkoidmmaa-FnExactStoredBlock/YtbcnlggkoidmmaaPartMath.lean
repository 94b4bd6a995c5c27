/-
  Parts of a block: numbers and codes, each in so many bits; the bits of a list of parts. Nothing here speaks of the program.
-/
import Derived.Test.YtbcnlggkoidmmaaBlockMath
namespace Go.Proofs.Ytbcnlggkoidmmaa
namespace PartMath
open OutMath PutMath BlockMath

/-- A part: its number, in how many bits, whether the highest one comes first. -/
abbrev Part := Int × Nat × Bool
def bitsP (p : Part) : List Int := pieceBits p.1 p.2.1 p.2.2
/-- The bits of parts, in order. -/
def partBits : List Part → List Int
  | [] => []
  | p :: l => bitsP p ++ partBits l
theorem partBits_app : ∀ a b : List Part, partBits (a ++ b) = partBits a ++ partBits b
  | [], _ => rfl
  | p :: l, b => by
    show bitsP p ++ partBits (l ++ b) = (bitsP p ++ partBits l) ++ partBits b
    rw [partBits_app l b, List.append_assoc]
theorem bits01_nil : Bits01 [] := fun i => by simp
theorem partBits_01 : ∀ l : List Part, Bits01 (partBits l)
  | [] => bits01_nil
  | _ :: l => (pieceBits_01 _ _ _).append (partBits_01 l)
theorem bitsP_length (p : Part) : (bitsP p).length = p.2.1 := pieceBits_length _ _ _
/-- A part that can be put. -/
def Right (p : Part) : Prop := 0 ≤ p.1 ∧ p.1 ≤ 16777216 ∧ p.2.1 ≤ 24
theorem partBits_le : ∀ l : List Part, (∀ p ∈ l, Right p) → (partBits l).length ≤ 24 * l.length
  | [], _ => Nat.le_refl _
  | p :: l, h => by
    have h1 := partBits_le l fun q hq => h q (List.mem_cons_of_mem _ hq)
    have h2 := (h p (List.mem_cons_self ..)).2.2
    show (bitsP p ++ partBits l).length ≤ _
    rw [List.length_append, bitsP_length, List.length_cons]
    omega
theorem partBits_take {l : List Part} {j : Nat} (h : j < l.length) : partBits (l.take (j + 1)) = partBits (l.take j) ++ bitsP (l.getD j (0, 0, false)) := by
  rw [List.take_add_one, List.getElem?_eq_getElem h, partBits_app, List.getD_eq_getElem?_getD, List.getElem?_eq_getElem h]
  show _ ++ (bitsP _ ++ []) = _
  rw [List.append_nil]
  rfl
/-- The first parts have no more bits than all. -/
theorem partBits_take_le : ∀ (l : List Part) (j : Nat), (partBits (l.take j)).length ≤ (partBits l).length
  | [], _ => by simp
  | _ :: _, 0 => Nat.zero_le _
  | p :: l, j + 1 => by
    show (bitsP p ++ partBits (l.take j)).length ≤ (bitsP p ++ partBits l).length
    have := partBits_take_le l j
    rw [List.length_append, List.length_append]
    omega
theorem putB_nil (xs : List Int) (c : Nat) : putB xs c [] = xs := rfl
/-- A part of no bits tells nothing. -/
theorem bitsP_none (x : Int) (h : Bool) : bitsP (x, 0, h) = [] := rfl
end PartMath
end Go.Proofs.Ytbcnlggkoidmmaa
