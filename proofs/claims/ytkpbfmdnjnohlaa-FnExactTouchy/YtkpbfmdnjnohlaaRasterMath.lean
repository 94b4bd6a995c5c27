/-
  A right raster, in plain numbers.
-/
import Derived.Test.YtkpbfmdnjnohlaaRastMath
import Derived.Test.YtkpbfmdnjnohlaaPackMath12
import Derived.WalkKit
import Derived.Below
namespace Go.Proofs.Ytkpbfmdnjnohlaa
open Go.RowKit RastMath
/-- Is the raster right? -/
def RasR (x0 x1 x2 x3 : Int) (n : Nat) (f : Nat → Int) : Prop := SideR x0 ∧ SideR x1 ∧ DepthR x2 x3 ∧ (n : Int) = x0 * x1 * chan x2 ∧ Fit12 f n x3.toNat
/-- What is answered of a raster. -/
def RasPost (x0 x1 x2 x3 : Int) (n : Nat) (f : Nat → Int) (w : World) (e : Ending) (w' : World) : Prop := ∃ b, e = .returned (.bool b) ∧ (b = true ↔ RasR x0 x1 x2 x3 n f) ∧ Below w.heap.size w w'
theorem ras_no {x0 x1 x2 x3 : Int} {n : Nat} {f : Nat → Int} {w w' : World} (h : ¬ RasR x0 x1 x2 x3 n f) (hb : Below w.heap.size w w') : RasPost x0 x1 x2 x3 n f w (.returned (.bool false)) w' := ⟨false, rfl, ⟨(fun e => by cases e), fun k => absurd k h⟩, hb⟩
theorem ras_yes {x0 x1 x2 x3 : Int} {n : Nat} {f : Nat → Int} {w w' : World} (h : RasR x0 x1 x2 x3 n f) (hb : Below w.heap.size w w') : RasPost x0 x1 x2 x3 n f w (.returned (.bool true)) w' := ⟨true, rfl, ⟨fun _ => h, fun _ => rfl⟩, hb⟩
end Go.Proofs.Ytkpbfmdnjnohlaa
