/-
  What is handed back, by its number. Nothing here speaks of the program.
-/
import Derived.WalkKit
namespace Go.Proofs.Ytpocfmopeaajaaa
open Go.RowKit

theorem ret_i {k : IntKind} {a b : Int} (h : a = b) : Ending.returned (.int k a) = .returned (.int k b) := by rw [h]
theorem ret_b {a b : Bool} (h : a = b) : Ending.returned (.bool a) = .returned (.bool b) := by rw [h]

end Go.Proofs.Ytpocfmopeaajaaa
