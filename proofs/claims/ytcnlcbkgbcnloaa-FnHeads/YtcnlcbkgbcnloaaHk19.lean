/-
  'make' of colors.
  The walks of the laws' helpers over lists of colors.
-/
import Derived.Test.YtcnlcbkgbcnloaaRows
import Derived.Test.YtcnlcbkgbcnloaaHk01
import Derived.Test.YtcnlcbkgbcnloaaHk06
import Derived.Test.YtcnlcbkgbcnloaaHk14
import Derived.WalkKit
import Derived.ProofKit
import Derived.Below
import Derived.OwnWalk
import Derived.Laws.MakeOwn
import Derived.Lib.SmallJoins
import Derived.WalkLawsBesides
import Derived.Sort.Grow
import Derived.Shelf.SlSortCmp.QuietGrown
namespace Go.Proofs.Ytcnlcbkgbcnloaa
open Go.RowKit Go.Joins HeadMath

theorem make_rgbs (w : World) (n : Nat) (hn : n ≤ 1048576) : (Instr.makeSlice 32 (.int .i64 n) (.int .i64 n)).run Try.prog w = .ok (.slice (some ⟨w.heap.size, 0, none⟩) n n) (w.alloc (.cells (madeCells #[.int .i64 0, .int .i64 0, .int .i64 0] (n * 3)) 38)) := by
  obtain ⟨i0, hi0, hz0, hz1, hz2⟩ := info_parts info_rgb
  have h := run_make (P := Try.prog) w 32 38 i0 (.agg #[.int .i64 0, .int .i64 0, .int .i64 0]) Try.underlying32 hi0 hz0 .i64 .i64 n n (by omega) (by omega) (by rw [hz2]; omega) (by omega)
  rw [hz1, Int.toNat_natCast] at h
  exact h
theorem made_rgb (n j : Nat) (hj : j < n * 3) : (madeCells #[Value.int .i64 0, .int .i64 0, .int .i64 0] (n * 3))[j]? = some (.int .i64 0) := by
  unfold madeCells
  rw [Array.getElem?_map, Array.getElem?_range, if_pos hj]
  show some ((#[Value.int .i64 0, .int .i64 0, .int .i64 0])[j % 3]!) = _
  have h : j % 3 < 3 := Nat.mod_lt _ (by omega)
  generalize j % 3 = q at h
  match q, h with
  | 0, _ => rfl
  | 1, _ => rfl
  | 2, _ => rfl
theorem RgbOwn.made (w : World) (base n : Nat) (hb : base ≤ w.heap.size) : RgbOwn (w.alloc (.cells (madeCells #[.int .i64 0, .int .i64 0, .int .i64 0] (n * 3)) 38)) base w.heap.size n (fun _ => (0, 0, 0)) :=
  ⟨hb, _, heap_alloc_new w _, by rw [size_madeCells]; exact Nat.le_refl _, fun j hj => ⟨made_rgb n _ (by omega), made_rgb n _ (by omega), made_rgb n _ (by omega)⟩⟩

end Go.Proofs.Ytcnlcbkgbcnloaa

namespace Go.Proofs.Ytcnlcbkgbcnloaa
open Go.RowKit Go.Joins Go.Sort HeadMath

/-- What the ring of toRgbS has at hand. -/
def RgbSt (w w' : World) (n : Nat) (F : Nat → Rgb3) (j : Nat) : Prop := Below w.heap.size w w' ∧ ∃ cur, w'.heap[w.heap.size]? = some (.cells cur 38 (0, 0)) ∧ cur.size = n * 3 ∧ ∀ i, i < j → cur[i * 3]? = some (.int .i64 (F i).1) ∧ cur[i * 3 + 1]? = some (.int .i64 (F i).2.1) ∧ cur[i * 3 + 2]? = some (.int .i64 (F i).2.2)
theorem RgbSt.called {w w1 w2 : World} {n : Nat} {F : Nat → Rgb3} {j : Nat} (h : RgbSt w w1 n F j) (hb : Below w1.heap.size w1 w2) : RgbSt w w2 n F j := by
  obtain ⟨h1, cur, h2, h3⟩ := h
  exact ⟨bnext h1 hb, cur, (hb.block _ (block_lt h2)).trans h2, h3⟩
theorem rgb_next {w w' : World} {n : Nat} {F : Nat → Rgb3} {j : Nat} (h : RgbSt w w' n F j) (hj : j < n) : RgbSt w (((w'.setCell ⟨w.heap.size, j * 3, none⟩ (.int .i64 (F j).1)).setCell ⟨w.heap.size, j * 3 + 1, none⟩ (.int .i64 (F j).2.1)).setCell ⟨w.heap.size, j * 3 + 2, none⟩ (.int .i64 (F j).2.2)) n F (j + 1) := by
  obtain ⟨h1, cur, h2, h3, h4⟩ := h
  refine ⟨((h1.setCell (p := ⟨w.heap.size, j * 3, none⟩) (Nat.le_refl _) _).setCell (p := ⟨w.heap.size, j * 3 + 1, none⟩) (Nat.le_refl _) _).setCell (p := ⟨w.heap.size, j * 3 + 2, none⟩) (Nat.le_refl _) _, ((cur.setIfInBounds (j * 3) (.int .i64 (F j).1)).setIfInBounds (j * 3 + 1) (.int .i64 (F j).2.1)).setIfInBounds (j * 3 + 2) (.int .i64 (F j).2.2), ?_, by simpa using h3, fun i hi => ?_⟩
  · simp [World.setCell, Array.getElem?_modify, h2]
  · by_cases e : i = j
    · subst e
      refine ⟨?_, ?_, ?_⟩
      · rw [Array.getElem?_setIfInBounds_ne (by omega), Array.getElem?_setIfInBounds_ne (by omega), Array.getElem?_setIfInBounds_self_of_lt (by omega)]
      · rw [Array.getElem?_setIfInBounds_ne (by omega), Array.getElem?_setIfInBounds_self_of_lt (by simp; omega)]
      · rw [Array.getElem?_setIfInBounds_self_of_lt (by simp; omega)]
    · obtain ⟨k1, k2, k3⟩ := h4 i (by omega)
      refine ⟨?_, ?_, ?_⟩
      · rw [Array.getElem?_setIfInBounds_ne (by omega), Array.getElem?_setIfInBounds_ne (by omega), Array.getElem?_setIfInBounds_ne (by omega)]; exact k1
      · rw [Array.getElem?_setIfInBounds_ne (by omega), Array.getElem?_setIfInBounds_ne (by omega), Array.getElem?_setIfInBounds_ne (by omega)]; exact k2
      · rw [Array.getElem?_setIfInBounds_ne (by omega), Array.getElem?_setIfInBounds_ne (by omega), Array.getElem?_setIfInBounds_ne (by omega)]; exact k3
theorem rgb_cell {w w' : World} {n : Nat} {F : Nat → Rgb3} {j : Nat} (h : RgbSt w w' n F j) : w.heap.size < w'.heap.size ∧ (∀ k, w'.frozen? ⟨w.heap.size, k, none⟩ = false) ∧ (∀ k, k < n * 3 → ∃ u, w'.cell? ⟨w.heap.size, k, none⟩ = some u) := by
  obtain ⟨h1, cur, h2, h3, h4⟩ := h
  refine ⟨block_lt h2, fun k => by simp [World.frozen?, h2], fun k hk => ?_⟩
  rw [cell_of_block h2]
  exact ⟨cur[k]'(by omega), Array.getElem?_eq_getElem (by omega)⟩

end Go.Proofs.Ytcnlcbkgbcnloaa
