/-
  The walk of the program's UnpackRow.
-/
import Derived.Test.YtmanafegckibjaaDoorRows
import Derived.Test.YtmanafegckibjaaDoorBase
import Derived.Test.YtmanafegckibjaaDoorIntsLib
import Derived.Test.YtmanafegckibjaaDoorMakeLib
import Derived.Test.YtmanafegckibjaaDoorRastMath
import Derived.Test.YtmanafegckibjaaDoorUnpMath
import Derived.Test.YtmanafegckibjaaDoorDepthImpl
import Derived.WalkKit
import Derived.ProofKit
import Derived.WalkLawsBesides
import Derived.RegionTactic
import Derived.BigRegion
import Derived.Deep.RegionWith
import Derived.Below
import Derived.OwnWalk
import Derived.Lib.SmallJoins
namespace Go.Proofs.YtmanafegckibjaaDoor
open Go.RowKit Go.Joins OutMath PutMath TakeMath RastMath

/-- What the ring of the program's UnpackRow has at hand. -/
def UnpI (w w' : World) (g : Nat) (s : ByteArray) (d n j : Nat) : Prop := ∃ h : Nat → Int, IOwn w' w.heap.size g n n h ∧ (∀ i, i < j → h i = smp s d i) ∧ Below w.heap.size w w'
theorem unpI_next {w wr : World} {g : Nat} {s : ByteArray} {d n j : Nat} {x : Int} (hS : UnpI w wr g s d n j) (hj : j < n) (hx : x = smp s d j) : UnpI w (wr.setCell ⟨g, j, none⟩ (.int .i64 x)).drew g s d n (j + 1) := by
  obtain ⟨h, hO, hh, hB⟩ := hS
  refine ⟨upd h j x, (hO.set j hj x).drew, fun i hi => ?_, (Below.setCell (p := ⟨g, j, none⟩) hB hO.base_le _).drew⟩
  unfold upd
  by_cases e : i = j
  · rw [if_pos e, e, hx]
  · rw [if_neg e]; exact hh i (by omega)
end Go.Proofs.YtmanafegckibjaaDoor
