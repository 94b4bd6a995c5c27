/-
  What the document's model of FromPasses has at hand: the raster that is made out of passes. Nothing here speaks of the program but the numbers of its types.
-/
import Derived.Test.YtmanafegckibjaaDoorRows
import Derived.Test.YtmanafegckibjaaDoorBase
import Derived.Test.YtmanafegckibjaaDoorIntsLib
import Derived.Test.YtmanafegckibjaaDoorPassMath
import Derived.Test.YtmanafegckibjaaDoorRasList
import Derived.WalkKit
import Derived.ProofKit
import Derived.Below
import Derived.Laws.AppendOwn
import Derived.Lib.SmallJoins
namespace Go.Proofs.YtmanafegckibjaaDoor
open Go.RowKit Go.Joins PassMath

/-- The result's box, the raster's box, its samples as far as D says. -/
def FrmI (w w' : World) (O S T : Nat) (x0 x1 x2 x3 : Int) (J : Nat → Int) (D : Nat → Prop) : Prop :=
  w'.heap[w.heap.size]? = some (.cells #[.int .i64 0, .int .i64 0, .int .i64 0, .int .i64 0, .slice none 0 0] 26 (0, 0)) ∧
  w'.heap[O]? = some (.cells #[.int .i64 x0, .int .i64 x1, .int .i64 x2, .int .i64 x3, .slice (some ⟨S, 0, none⟩) T T] 26 (0, 0)) ∧ w.heap.size < O ∧ S ≠ O ∧
  (∃ h, IOwn w' (w.heap.size + 1) S T T h ∧ ∀ i, i < T → D i → h i = J i) ∧ Below w.heap.size w w'
section
variable {w w' w2 : World} {O S T : Nat} {x0 x1 x2 x3 : Int} {J : Nat → Int} {D D' : Nat → Prop}
theorem FrmI.weaken (h : FrmI w w' O S T x0 x1 x2 x3 J D) (hD : ∀ i, i < T → D' i → D i) : FrmI w w' O S T x0 x1 x2 x3 J D' := by
  obtain ⟨h1, h2, h3, h4, ⟨k, hk, hj⟩, h5⟩ := h
  exact ⟨h1, h2, h3, h4, ⟨k, hk, fun i hi hd => hj i hi (hD i hi hd)⟩, h5⟩
theorem FrmI.called (h : FrmI w w' O S T x0 x1 x2 x3 J D) (hb : Below w'.heap.size w' w2) : FrmI w w2 O S T x0 x1 x2 x3 J D := by
  obtain ⟨h1, h2, h3, h4, ⟨k, hk, hj⟩, h5⟩ := h
  exact ⟨(hb.block _ (block_lt h1)).trans h1, (hb.block _ (block_lt h2)).trans h2, h3, h4, ⟨k, hk.called hb, hj⟩, bnext h5 hb⟩
/-- One sample more. -/
theorem FrmI.set (h : FrmI w w' O S T x0 x1 x2 x3 J D) {m : Nat} (hm : m < T) : FrmI w ((w'.setCell ⟨S, m, none⟩ (.int .i64 (J m))).drew) O S T x0 x1 x2 x3 J (fun i => D i ∨ i = m) := by
  obtain ⟨h1, h2, h3, h4, ⟨k, hk, hj⟩, h5⟩ := h
  have hS := hk.base_le
  refine ⟨?_, ?_, h3, h4, ⟨upd k m (J m), (hk.set m hm (J m)).drew, fun i hi hd => ?_⟩, ?_⟩
  · exact (heap_setCell_other w' ⟨S, m, none⟩ _ _ (by show ¬ w.heap.size = S; omega)).trans h1
  · exact (heap_setCell_other w' ⟨S, m, none⟩ _ _ (by show ¬ O = S; exact fun e => h4 e.symm)).trans h2
  · unfold upd
    by_cases e : i = m
    · rw [if_pos e, e]
    · rw [if_neg e]
      rcases hd with hd | hd
      · exact hj i hi hd
      · exact absurd hd e
  · exact (Below.setCell (p := ⟨S, m, none⟩) h5 (by show w.heap.size ≤ S; omega) _).drew
theorem FrmI.cells (h : FrmI w w' O S T x0 x1 x2 x3 J D) : w'.cell? ⟨O, 0, none⟩ = some (.int .i64 x0) ∧ w'.cell? ⟨O, 1, none⟩ = some (.int .i64 x1) ∧ w'.cell? ⟨O, 2, none⟩ = some (.int .i64 x2) ∧ w'.cell? ⟨O, 3, none⟩ = some (.int .i64 x3) ∧ w'.cell? ⟨O, 4, none⟩ = some (.slice (some ⟨S, 0, none⟩) T T) ∧ O < w'.heap.size :=
  ⟨(cell_of_block h.2.1 0).trans rfl, (cell_of_block h.2.1 1).trans rfl, (cell_of_block h.2.1 2).trans rfl, (cell_of_block h.2.1 3).trans rfl, (cell_of_block h.2.1 4).trans rfl, block_lt h.2.1⟩
theorem FrmI.zero (h : FrmI w w' O S T x0 x1 x2 x3 J D) : w'.cell? ⟨w.heap.size, 0, none⟩ = some (.int .i64 0) ∧ w'.cell? ⟨w.heap.size, 1, none⟩ = some (.int .i64 0) ∧ w'.cell? ⟨w.heap.size, 2, none⟩ = some (.int .i64 0) ∧ w'.cell? ⟨w.heap.size, 3, none⟩ = some (.int .i64 0) ∧ w'.cell? ⟨w.heap.size, 4, none⟩ = some (.slice none 0 0) ∧ (∀ k, w'.frozen? ⟨w.heap.size, k, none⟩ = false) ∧ w.heap.size < w'.heap.size :=
  ⟨(cell_of_block h.1 0).trans rfl, (cell_of_block h.1 1).trans rfl, (cell_of_block h.1 2).trans rfl, (cell_of_block h.1 3).trans rfl, (cell_of_block h.1 4).trans rfl, fun k => by simp [World.frozen?, h.1], block_lt h.1⟩
theorem FrmI.sample (h : FrmI w w' O S T x0 x1 x2 x3 J D) {m : Nat} (hm : m < T) : (∃ z, w'.cell? ⟨S, m, none⟩ = some (.int .i64 z)) ∧ w'.frozen? ⟨S, m, none⟩ = false ∧ S < w'.heap.size ∧ w.heap.size < S := by
  obtain ⟨h1, h2, h3, h4, ⟨k, hk, hj⟩, h5⟩ := h
  exact ⟨⟨_, hk.cell m hm⟩, hk.free m hm, hk.lt, hk.base_le⟩
theorem FrmI.own (h : FrmI w w' O S T x0 x1 x2 x3 J D) (hD : ∀ i, i < T → D i) : IOwn w' (w.heap.size + 1) S T T J := by
  obtain ⟨h1, h2, h3, h4, ⟨k, hk, hj⟩, h5⟩ := h
  exact hk.congr (fun i hi => hj i hi (hD i hi))
end
theorem frm_made1 {w V0 : World} {T : Nat} {x0 x1 x2 x3 : Int} {J : Nat → Int} (hB : Below w.heap.size w V0) (hz : V0.heap[w.heap.size]? = some (.cells #[.int .i64 0, .int .i64 0, .int .i64 0, .int .i64 0, .slice none 0 0] 26 (0, 0))) (hT : T ≤ maxLen) :
    FrmI w ((V0.alloc (.cells (madeCells #[Value.int .i64 0] T) 3)).alloc (.cells #[.int .i64 x0, .int .i64 x1, .int .i64 x2, .int .i64 x3, .slice (some ⟨V0.heap.size, 0, none⟩) T T] 26)) (V0.heap.size + 1) V0.heap.size T x0 x1 x2 x3 J (fun _ => False) := by
  have hl := block_lt hz
  refine ⟨?_, ?_, by omega, by omega, ⟨fun _ => 0, (IOwn.made V0 T hT (by omega)).alloc _, fun i _ h => h.elim⟩, bal (bal hB _) _⟩
  · rw [Below.heap_alloc _ _ _ (by simp; omega), Below.heap_alloc _ _ _ hl]
    exact hz
  · have := heap_alloc_new (V0.alloc (.cells (madeCells #[Value.int .i64 0] T) 3)) (.cells #[.int .i64 x0, .int .i64 x1, .int .i64 x2, .int .i64 x3, .slice (some ⟨V0.heap.size, 0, none⟩) T T] 26)
    rw [show (V0.alloc (.cells (madeCells #[Value.int .i64 0] T) 3)).heap.size = V0.heap.size + 1 by simp] at this
    exact this
theorem frm_made2 {w V0 : World} {T : Nat} {x0 x1 x2 x3 : Int} {J : Nat → Int} (hB : Below w.heap.size w V0) (hz : V0.heap[w.heap.size]? = some (.cells #[.int .i64 0, .int .i64 0, .int .i64 0, .int .i64 0, .slice none 0 0] 26 (0, 0))) (hT : T ≤ maxLen) :
    FrmI w ((V0.alloc (.cells #[.int .i64 x0, .int .i64 x1, .int .i64 x2, .int .i64 x3, .slice (some ⟨V0.heap.size + 1, 0, none⟩) T T] 26)).alloc (.cells (madeCells #[Value.int .i64 0] T) 3)) V0.heap.size (V0.heap.size + 1) T x0 x1 x2 x3 J (fun _ => False) := by
  have hl := block_lt hz
  have e : (V0.alloc (.cells #[.int .i64 x0, .int .i64 x1, .int .i64 x2, .int .i64 x3, .slice (some ⟨V0.heap.size + 1, 0, none⟩) T T] 26)).heap.size = V0.heap.size + 1 := by simp
  refine ⟨?_, ?_, by omega, by omega, ⟨fun _ => 0, ?_, fun i _ h => h.elim⟩, bal (bal hB _) _⟩
  · rw [Below.heap_alloc _ _ _ (by simp; omega), Below.heap_alloc _ _ _ hl]
    exact hz
  · rw [Below.heap_alloc _ _ _ (by simp)]
    exact heap_alloc_new V0 _
  · have := IOwn.made (base := w.heap.size + 1) (V0.alloc (.cells #[.int .i64 x0, .int .i64 x1, .int .i64 x2, .int .i64 x3, .slice (some ⟨V0.heap.size + 1, 0, none⟩) T T] 26)) T hT (by rw [e]; omega)
    rw [e] at this
    exact this
/-- Which samples are laid when the passes below p are, and k samples of p. -/
def doneM (W H N p k m : Nat) : Prop := pasM W N m < p ∨ (pasM W N m = p ∧ idxM W H N m < k)
end Go.Proofs.YtmanafegckibjaaDoor
