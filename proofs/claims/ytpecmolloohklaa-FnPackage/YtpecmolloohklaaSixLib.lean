/-
  Arrays of sixteen numbers. Nothing here speaks of the program.
-/
import Derived.Test.YtpecmolloohklaaRows
import Derived.Test.YtpecmolloohklaaBase
import Derived.Test.YtpecmolloohklaaOwnLib
import Derived.Test.YtpecmolloohklaaIntsLib
import Derived.WalkKit
import Derived.Below
import Derived.Lib.SmallJoins
namespace Go.Proofs.Ytpecmolloohklaa
open Go.RowKit Go.Joins

/-- Sixteen numbers. -/
abbrev six (g : Nat → Int) : Array Value := #[.int .i64 (g 0), .int .i64 (g 1), .int .i64 (g 2), .int .i64 (g 3), .int .i64 (g 4), .int .i64 (g 5), .int .i64 (g 6), .int .i64 (g 7), .int .i64 (g 8), .int .i64 (g 9), .int .i64 (g 10), .int .i64 (g 11), .int .i64 (g 12), .int .i64 (g 13), .int .i64 (g 14), .int .i64 (g 15)]

/-- Block b is an array of sixteen numbers. -/
def Six (w : World) (b : Nat) (t : TypeId) (g : Nat → Int) : Prop := w.heap[b]? = some (.cells (fints g 16).toArray t (0, 0))
theorem Six.c {w : World} {b : Nat} {t : TypeId} {g : Nat → Int} (h : Six w b t g) (i : Nat) (hi : i < 16) : w.cell? ⟨b, i, none⟩ = some (.int .i64 (g i)) := by
  have k := cell_of_block h i
  rw [k, List.getElem?_toArray, List.getElem?_eq_getElem (by rw [fints_length]; exact hi), fints_get]
theorem Six.f {w : World} {b : Nat} {t : TypeId} {g : Nat → Int} (h : Six w b t g) (i : Nat) : w.frozen? ⟨b, i, none⟩ = false := unfrozen_of_block h i
theorem Six.lt {w : World} {b : Nat} {t : TypeId} {g : Nat → Int} (h : Six w b t g) : b < w.heap.size := block_lt h
theorem Six.set {w : World} {b : Nat} {t : TypeId} {g : Nat → Int} (h : Six w b t g) (i : Nat) (x : Int) : Six (w.setCell ⟨b, i, none⟩ (.int .i64 x)) b t (upd g i x) := by
  have k := block_setCell (i := i) h (.int .i64 x)
  unfold Six
  rw [k, ← fints_set]
  simp
theorem Six.congr {w : World} {b : Nat} {t : TypeId} {g g' : Nat → Int} (h : Six w b t g) (e : ∀ i, i < 16 → g i = g' i) : Six w b t g' := by
  unfold Six at h ⊢
  rw [← fints_congr e]
  exact h

end Go.Proofs.Ytpecmolloohklaa
