/-
  A list of coins that is sorted in place, by its keys: a coin is a weight and a symbol, two cells; its key holds both. Nothing here speaks of the program.
-/
import Derived.Test.YtpecmolloohklaaRows
import Derived.Test.YtpecmolloohklaaBase
import Derived.Test.YtpecmolloohklaaIntsLib
import Derived.Test.YtpecmolloohklaaSortMath
import Derived.WalkKit
import Derived.Below
import Derived.Sort.Grow
import Derived.Lib.SmallJoins
namespace Go.Proofs.Ytpecmolloohklaa
open Go.RowKit Go.Joins Go.Sort SortMath

/-- W is w0 but for draws, new blocks, and the block g, whose first n coins have the keys f. -/
structure CW (w0 : World) (g n : Nat) (f : Nat → Int) (W : World) : Prop where
  os : W.os = w0.os
  tape : W.tape = w0.tape
  output : W.output = w0.output
  size : w0.heap.size ≤ W.heap.size
  other : ∀ k, k < w0.heap.size → k ≠ g → W.heap[k]? = w0.heap[k]?
  lt : g < w0.heap.size
  row : ∃ cur0 cur T, w0.heap[g]? = some (.cells cur0 T (0, 0)) ∧ W.heap[g]? = some (.cells cur T (0, 0)) ∧ cur.size = cur0.size ∧ n * 2 ≤ cur.size ∧ (∀ i, i < n → cur[i * 2]? = some (.int .i64 (f i / 1024)) ∧ cur[i * 2 + 1]? = some (.int .i64 (f i % 1024)))

section
variable {w0 W W' : World} {g n : Nat} {f : Nat → Int}
theorem CW.gl (h : CW w0 g n f W) : g < W.heap.size := Nat.lt_of_lt_of_le h.lt h.size
theorem CW.cell0 (h : CW w0 g n f W) (i : Nat) (hi : i < n) : W.cell? ⟨g, i * 2, none⟩ = some (.int .i64 (f i / 1024)) := by
  obtain ⟨c0, c, T, h1, h2, h3, h4, h5⟩ := h.row
  rw [cell_of_block h2]
  exact (h5 i hi).1
theorem CW.cell1 (h : CW w0 g n f W) (i : Nat) (hi : i < n) : W.cell? ⟨g, i * 2 + 1, none⟩ = some (.int .i64 (f i % 1024)) := by
  obtain ⟨c0, c, T, h1, h2, h3, h4, h5⟩ := h.row
  rw [cell_of_block h2]
  exact (h5 i hi).2
theorem CW.free (h : CW w0 g n f W) (k : Nat) : W.frozen? ⟨g, k, none⟩ = false := by
  obtain ⟨c0, c, T, h1, h2, h3, h4, h5⟩ := h.row
  simp [World.frozen?, h2]
theorem CW.grown (h : CW w0 g n f W) (q : Nat) (os : Array Obj) : CW w0 g n f (grow (W.drewN q) os) := by
  have hk : ∀ k, k < W.heap.size → (grow (W.drewN q) os).heap[k]? = W.heap[k]? := fun k hk => heap_grow_old (W.drewN q) os hk
  refine ⟨h.os, h.tape, h.output, ?_, fun k h1 h2 => ?_, h.lt, ?_⟩
  · rw [size_grow]
    have := h.size
    show w0.heap.size ≤ W.heap.size + os.size
    omega
  · rw [hk k (Nat.lt_of_lt_of_le h1 h.size)]
    exact h.other k h1 h2
  · obtain ⟨c0, c, T, h1, h2, h3⟩ := h.row
    exact ⟨c0, c, T, h1, (hk g h.gl).trans h2, h3⟩
theorem CW.drewN (h : CW w0 g n f W) (q : Nat) : CW w0 g n f (W.drewN q) := ⟨h.os, h.tape, h.output, h.size, h.other, h.lt, h.row⟩
theorem CW.drew (h : CW w0 g n f W) : CW w0 g n f W.drew := h.drewN 1
theorem CW.congr {f' : Nat → Int} (h : CW w0 g n f W) (e : ∀ i, f i = f' i) : CW w0 g n f' W := by
  obtain rfl : f = f' := funext e
  exact h
/-- A coin put into a place. -/
theorem CW.put (h : CW w0 g n f W) (i : Nat) (hi : i < n) (x : Int) : CW w0 g n (upd f i x) ((W.setCell ⟨g, i * 2, none⟩ (.int .i64 (x / 1024))).setCell ⟨g, i * 2 + 1, none⟩ (.int .i64 (x % 1024))) := by
  refine ⟨h.os, h.tape, h.output, by simpa using h.size, fun k h1 h2 => ?_, h.lt, ?_⟩
  · rw [Below.heap_setCell _ _ _ _ h2, Below.heap_setCell _ _ _ _ h2]
    exact h.other k h1 h2
  · obtain ⟨c0, c, T, h1, h2, h3, h4, h5⟩ := h.row
    refine ⟨c0, (c.setIfInBounds (i * 2) (.int .i64 (x / 1024))).setIfInBounds (i * 2 + 1) (.int .i64 (x % 1024)), T, h1, ?_, by simpa using h3, by simpa using h4, fun j hj => ?_⟩
    · simp [World.setCell, Array.getElem?_modify, h2]
    · obtain ⟨k1, k2⟩ := h5 j hj
      unfold upd
      by_cases e : j = i
      · subst e
        rw [if_pos rfl]
        refine ⟨?_, ?_⟩
        · rw [Array.getElem?_setIfInBounds_ne (by omega), Array.getElem?_setIfInBounds_self_of_lt (by omega)]
        · rw [Array.getElem?_setIfInBounds_self_of_lt (by simp; omega)]
      · rw [if_neg e]
        refine ⟨?_, ?_⟩
        · rw [Array.getElem?_setIfInBounds_ne (by omega), Array.getElem?_setIfInBounds_ne (by omega)]; exact k1
        · rw [Array.getElem?_setIfInBounds_ne (by omega), Array.getElem?_setIfInBounds_ne (by omega)]; exact k2
theorem sw_upd (f : Nat → Int) (i j : Nat) (x : Nat) (h : i ≠ j) : upd (upd f i (f j)) j (f i) x = sw f i j x := by
  unfold upd sw
  by_cases e : x = j
  · rw [if_pos e, if_neg (by omega), if_pos e]
  · rw [if_neg e, if_neg e]
/-- Two coins change places. -/
theorem CW.swap (h : CW w0 g n f W) (i j : Nat) (hi : i < n) (hj : j < n) (hne : i ≠ j) :
    CW w0 g n (sw f i j) ((((W.setCell ⟨g, i * 2, none⟩ (.int .i64 (f j / 1024))).setCell ⟨g, i * 2 + 1, none⟩ (.int .i64 (f j % 1024))).setCell ⟨g, j * 2, none⟩ (.int .i64 (f i / 1024))).setCell ⟨g, j * 2 + 1, none⟩ (.int .i64 (f i % 1024))) :=
  ((h.put i hi (f j)).put j hj (f i)).congr (fun x => sw_upd f i j x hne)
end

end Go.Proofs.Ytpecmolloohklaa
