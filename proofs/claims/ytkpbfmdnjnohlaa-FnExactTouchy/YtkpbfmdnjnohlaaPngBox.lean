/-
  A picture in its box: the program's, and the law's own.
-/
import Derived.Test.YtkpbfmdnjnohlaaRows
import Derived.Test.YtkpbfmdnjnohlaaBase
import Derived.Test.YtkpbfmdnjnohlaaPngMem
import Derived.WalkKit
import Derived.ProofKit
import Derived.Below
import Derived.Lib.SmallJoins
namespace Go.Proofs.Ytkpbfmdnjnohlaa
open Go.RowKit Go.Joins OutMath PutMath RastMath HeadMath ChunkMath

/-- The picture in the box that the function captures. -/
def BoxAt (w : World) (B : Nat) (A : Array Value) : Prop := w.heap[B]? = some (.cells A 41 (0, 0))
theorem BoxAt.called {w w' : World} {B : Nat} {A : Array Value} (h : BoxAt w B A) (hb : Below w.heap.size w w') : BoxAt w' B A := (hb.block _ (block_lt h)).trans h
/-- The law's own picture in its box. -/
def LBox (w W : World) (A : Array Value) : Prop := W.heap[w.heap.size]? = some (.cells A 30 (0, 0)) ∧ Below w.heap.size w W
theorem LBox.called {w W W' : World} {A : Array Value} (h : LBox w W A) (hb : Below W.heap.size W W') : LBox w W' A := ⟨(hb.block _ (block_lt h.1)).trans h.1, bnext h.2 hb⟩
theorem LBox.drew {w W : World} {A : Array Value} (h : LBox w W A) : LBox w W.drew A := h.called (bdraws (Below.refl _ _) 1)
/-- What the last region's worlds have in common. -/
def LawS (w : World) (A : Array Value) (X : Nat) (A2 : Array Value) (p : Pic) (q q0 : PicA) (u : World) : Prop := LBox w u A ∧ BoxAt u X A2 ∧ PngIn u p q ∧ PngIn u p q0
theorem LawS.called {w u u' : World} {A A2 : Array Value} {X : Nat} {p : Pic} {q q0 : PicA} (h : LawS w A X A2 p q q0 u) (hb : Below u.heap.size u u') : LawS w A X A2 p q q0 u' := ⟨h.1.called hb, h.2.1.called hb, h.2.2.1.called hb, h.2.2.2.called hb⟩
end Go.Proofs.Ytkpbfmdnjnohlaa
