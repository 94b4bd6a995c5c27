/-
  An operation of a region that is wanted.
-/
import Derived.Test.YtkpbfmdnjnohlaaRows
import Derived.WalkKit
namespace Go.Proofs.Ytkpbfmdnjnohlaa
theorem if_wanted {c A E : Prop} [Decidable c] (hc : c) (h : A) : if c then A else E := by rw [if_pos hc]; exact h
theorem wanted_none {o : Oper} {y : Nat → Option Bool} (h : o.guard = none) : Region.wanted o y = true := by simp [Region.wanted, h]
theorem wanted_yes {o : Oper} {y : Nat → Option Bool} {i : Nat} {b : Bool} (h : o.guard = some (i, b)) (hy : y i = some b) : Region.wanted o y = true := by simp [Region.wanted, h, hy]
end Go.Proofs.Ytkpbfmdnjnohlaa
