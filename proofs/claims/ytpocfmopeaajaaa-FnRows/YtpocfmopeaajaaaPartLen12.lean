/-
  An operation of a region that is wanted.
-/
import Derived.Test.YtpocfmopeaajaaaRows
import Derived.WalkKit
namespace Go.Proofs.Ytpocfmopeaajaaa
theorem if_wanted {c A E : Prop} [Decidable c] (hc : c) (h : A) : if c then A else E := by rw [if_pos hc]; exact h
theorem wanted_none {o : Oper} {y : Nat → Option Bool} (h : o.guard = none) : Region.wanted o y = true := by simp [Region.wanted, h]
end Go.Proofs.Ytpocfmopeaajaaa
