/-
  Small facts that the proofs of several laws share.
-/
import Derived.Test.YtkpbfmdnjnohlaaRows
import Derived.WalkKit
import Derived.Below
import Derived.Lib.SmallJoins
import Derived.Deep.QuietTactic
namespace Go.Proofs.Ytkpbfmdnjnohlaa
open Go.RowKit Go.Joins

theorem of_laid : laidOutB Try.prog = true := by kernel_rfl

/-- Behind a call that turned nothing old, old cells read as before. -/
theorem bcell {W w1 : World} (hb : Below W.heap.size W w1) : (∀ b o, b < W.heap.size → w1.cell? ⟨b, o, none⟩ = W.cell? ⟨b, o, none⟩) ∧ (∀ b o, b < W.heap.size → w1.frozen? ⟨b, o, none⟩ = W.frozen? ⟨b, o, none⟩) :=
  ⟨fun b o h => hb.cell (p := ⟨b, o, none⟩) h, fun b o h => hb.frozen (p := ⟨b, o, none⟩) h⟩

theorem bnext {a b c : World} (h : Below a.heap.size a b) (k : Below b.heap.size b c) : Below a.heap.size a c := h.trans (k.mono h.size)
theorem bal {a b : World} (h : Below a.heap.size a b) (o : Obj) : Below a.heap.size a (b.alloc o) := h.alloc h.size o
theorem bstart (a : World) (o : Obj) : Below a.heap.size a (a.alloc o) := (Below.refl _ _).alloc (Nat.le_refl _) o
theorem bdraws {a b : World} (h : Below a.heap.size a b) (n : Nat) : Below a.heap.size a (b.drewN n) := h.trans ⟨rfl, rfl, rfl, Nat.le_refl _, fun _ _ => rfl⟩

theorem hid_of {p : Prop} (h : p) : Hid p := h
/-- An old cell, and an old block, behind what was made. -/
theorem grow_cell {w : World} (o : Obj) {b : Nat} (h : b < w.heap.size) (i : Nat) : (w.alloc o).cell? ⟨b, i, none⟩ = w.cell? ⟨b, i, none⟩ := (bstart w o).cell (p := ⟨b, i, none⟩) h
theorem grow_lt {w : World} (o : Obj) {b : Nat} (h : b < w.heap.size) : b < (w.alloc o).heap.size := by simp; omega
/-- A block of two cells, set. -/
theorem two_set {w : World} {b : Nat} {u0 u1 : Value} {y : TypeId} (h : w.heap[b]? = some (.cells #[u0, u1] y (0, 0))) (v0 v1 : Value) : ((w.setCell ⟨b, 0, none⟩ v0).setCell ⟨b, 1, none⟩ v1).heap[b]? = some (.cells #[v0, v1] y (0, 0)) := by
  have h0 := block_setCell (i := 0) h v0
  have h1 := block_setCell (i := 1) h0 v1
  simpa using h1
theorem two_below {B b : Nat} {w w' : World} (h : Below B w w') (hb : B ≤ b) (v0 v1 : Value) : Below B w ((w'.setCell ⟨b, 0, none⟩ v0).setCell ⟨b, 1, none⟩ v1) :=
  Below.setCell (p := ⟨b, 1, none⟩) (Below.setCell (p := ⟨b, 0, none⟩) h hb _) hb _
theorem block_lt {w : World} {b : Nat} {o : Obj} (h : w.heap[b]? = some o) : b < w.heap.size := by
  rcases Nat.lt_or_ge b w.heap.size with k | k
  · exact k
  · rw [Array.getElem?_eq_none k] at h; cases h

end Go.Proofs.Ytkpbfmdnjnohlaa
