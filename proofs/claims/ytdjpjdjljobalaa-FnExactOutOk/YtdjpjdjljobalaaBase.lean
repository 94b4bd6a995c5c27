/-
  Small facts that the proofs of several laws share.
-/
import Derived.Test.YtdjpjdjljobalaaRows
import Derived.WalkKit
import Derived.Below
namespace Go.Proofs.Ytdjpjdjljobalaa
open Go.RowKit

theorem of_laid : laidOutB Try.prog = true := by kernel_rfl

/-- Behind a call that turned nothing old, old cells read as before. -/
theorem bcell {W w1 : World} (hb : Below W.heap.size W w1) : (∀ b o, b < W.heap.size → w1.cell? ⟨b, o, none⟩ = W.cell? ⟨b, o, none⟩) ∧ (∀ b o, b < W.heap.size → w1.frozen? ⟨b, o, none⟩ = W.frozen? ⟨b, o, none⟩) :=
  ⟨fun b o h => hb.cell (p := ⟨b, o, none⟩) h, fun b o h => hb.frozen (p := ⟨b, o, none⟩) h⟩

end Go.Proofs.Ytdjpjdjljobalaa
