/-
  A block that is an Out.
-/
import Derived.Test.YtbomnhpkehfdoaaRows
import Derived.Test.YtbomnhpkehfdoaaBase
import Derived.Test.YtbomnhpkehfdoaaOwnLib
import Derived.WalkKit
import Derived.Below
import Derived.Lib.SmallJoins
namespace Go.Proofs.Ytbomnhpkehfdoaa
open Go.RowKit Go.Joins

/-- Block k is an Out of the text s and the number c. -/
def OutBox (w : World) (k : Nat) (s : ByteArray) (c : Int) : Prop := w.heap[k]? = some (.cells #[.string s, .int .i64 c] 28 (0, 0))
section
variable {w w' : World} {k : Nat} {s : ByteArray} {c : Int}
theorem OutBox.c0 (h : OutBox w k s c) : w.cell? ⟨k, 0, none⟩ = some (.string s) := cell_of_block h 0
theorem OutBox.c1 (h : OutBox w k s c) : w.cell? ⟨k, 1, none⟩ = some (.int .i64 c) := cell_of_block h 1
theorem OutBox.f (h : OutBox w k s c) (i : Nat) : w.frozen? ⟨k, i, none⟩ = false := unfrozen_of_block h i
theorem OutBox.lt (h : OutBox w k s c) : k < w.heap.size := by
  rcases Nat.lt_or_ge k w.heap.size with q | q
  · exact q
  · unfold OutBox at h; rw [Array.getElem?_eq_none q] at h; cases h
theorem OutBox.grown {b : Nat} (h : OutBox w k s c) (hg : w.grownBy w' (some b)) (hne : k ≠ b) : OutBox w' k s c := (hg.block k h.lt (by simpa using hne)).trans h
theorem OutBox.below (h : OutBox w k s c) (hg : Below w.heap.size w w') : OutBox w' k s c := (hg.block k h.lt).trans h
theorem OutBox.set0 (h : OutBox w k s c) (t : ByteArray) : OutBox (w.setCell ⟨k, 0, none⟩ (.string t)) k t c := by
  have := block_setCell (i := 0) h (.string t)
  simpa [OutBox] using this
theorem OutBox.set1 (h : OutBox w k s c) (x : Int) : OutBox (w.setCell ⟨k, 1, none⟩ (.int .i64 x)) k s x := by
  have := block_setCell (i := 1) h (.int .i64 x)
  simpa [OutBox] using this
theorem OutBox.other (h : OutBox w k s c) (p : Addr) (v : Value) (hne : p.block ≠ k) : OutBox (w.setCell p v) k s c := (Below.heap_setCell w p v k (Ne.symm hne)).trans h
end

end Go.Proofs.Ytbomnhpkehfdoaa
