/-
  The program's table of the passes' grids.
-/
import Derived.Test.YtmanafegckibjaaDoorRows
import Derived.Test.YtmanafegckibjaaDoorBase
import Derived.Test.YtmanafegckibjaaDoorPassMath
import Derived.WalkKit
import Derived.Below
namespace Go.Proofs.YtmanafegckibjaaDoor
open Go.RowKit Go.Joins PassMath

/-- The grids of the seven passes lie in the program's table. -/
def GridG (w : World) : Prop := 0 < w.heap.size ∧ ∀ p, p < 7 → w.cell? ⟨0, p * 4, none⟩ = some (.int .i64 (px p : Int)) ∧ w.cell? ⟨0, p * 4 + 1, none⟩ = some (.int .i64 (py p : Int)) ∧ w.cell? ⟨0, p * 4 + 2, none⟩ = some (.int .i64 (pdx p : Int)) ∧ w.cell? ⟨0, p * 4 + 3, none⟩ = some (.int .i64 (pdy p : Int))
theorem GridG.below {B : Nat} {w w' : World} (h : GridG w) (hb : Below B w w') (hB : 0 < B) : GridG w' := by
  have e : ∀ k, w'.cell? ⟨0, k, none⟩ = w.cell? ⟨0, k, none⟩ := fun k => World.cell?_of_block (a := ⟨0, k, none⟩) (hb.block _ hB)
  refine ⟨Nat.lt_of_lt_of_le h.1 hb.size, fun p hp => ?_⟩
  rw [e, e, e, e]
  exact h.2 p hp
theorem GridG.called {w w' : World} (h : GridG w) (hb : Below w.heap.size w w') : GridG w' := h.below hb h.1
end Go.Proofs.YtmanafegckibjaaDoor
