/-
  A flag that tells whether something holds.
-/
import Derived.Test.YtcnlcbkgbcnloabRows
import Derived.WalkKit
import Derived.Below
import Derived.Lib.SmallJoins
namespace Go.Proofs.Ytcnlcbkgbcnloab
open Go.RowKit Go.Joins

/-- A flag that tells whether p holds. -/
def Flag (p : Prop) (w : World) (e : Ending) (w' : World) : Prop := ∃ b, e = .returned (.bool b) ∧ (b = true ↔ p) ∧ Below w.heap.size w w'
theorem Flag.congr {p q : Prop} {w : World} {e : Ending} {w' : World} (h : Flag p w e w') (hpq : p ↔ q) : Flag q w e w' := by
  obtain ⟨b, h1, h2, h3⟩ := h
  exact ⟨b, h1, h2.trans hpq, h3⟩
end Go.Proofs.Ytcnlcbkgbcnloab
