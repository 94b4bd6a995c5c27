/-
  The list of passes while the program makes it: what stands in memory. Nothing here speaks of the program but the numbers of its types.
-/
import Derived.Test.YtmanafegckibjaaDoorRows
import Derived.Test.YtmanafegckibjaaDoorRk01
import Derived.Test.YtmanafegckibjaaDoorRk02
import Derived.WalkKit
import Derived.ProofKit
import Derived.Below
import Derived.Lib.SmallJoins
namespace Go.Proofs.YtmanafegckibjaaDoor
open Go.RowKit Go.Joins

/-- What the ring has at hand: the raster's box, the list with p passes laid, and whatever stands behind them. -/
def PsI (w w' : World) (bx : Array Value) (gl p : Nat) (R : Nat → Ras) : Prop :=
  w'.heap[w.heap.size]? = some (.cells bx 26 (0, 0)) ∧
  (∃ (A : Nat → Option Addr) (G C : Nat → Nat) (cur : Array Value), w.heap.size + 1 ≤ gl ∧ w'.heap[gl]? = some (.cells cur 26 (0, 0)) ∧ cur.size = 35 ∧ (∀ j, j < p → HeadAt cur (j * 5) (R j) (A j) (C j)) ∧
    (∀ j, j < p → RowOwn w' w.heap.size (A j) (G j) (R j).n (C j) (R j).f) ∧ (∀ j, j < p → 0 < (R j).n → G j ≠ gl) ∧ ∀ i j, i < p → j < p → i ≠ j → 0 < (R i).n → 0 < (R j).n → G i ≠ G j) ∧
  Below w.heap.size w w'
/-- The same, and the shape of one more. -/
def PsQ (w w' : World) (bx : Array Value) (gl p : Nat) (R : Nat → Ras) (a0 a1 a2 a3 : Int) : Prop :=
  PsI w w' bx gl p R ∧ w'.cell? ⟨gl, p * 5, none⟩ = some (.int .i64 a0) ∧ w'.cell? ⟨gl, p * 5 + 1, none⟩ = some (.int .i64 a1) ∧ w'.cell? ⟨gl, p * 5 + 2, none⟩ = some (.int .i64 a2) ∧ w'.cell? ⟨gl, p * 5 + 3, none⟩ = some (.int .i64 a3)
section
variable {w w' w2 : World} {bx : Array Value} {gl p : Nat} {R : Nat → Ras} {a0 a1 a2 a3 : Int}
theorem PsI.lt (h : PsI w w' bx gl p R) : gl < w'.heap.size ∧ w.heap.size < gl := by
  obtain ⟨_, ⟨A, G, C, cur, h1, h2, _⟩, _⟩ := h
  exact ⟨block_lt h2, h1⟩
theorem PsI.called (h : PsI w w' bx gl p R) (hb : Below w'.heap.size w' w2) : PsI w w2 bx gl p R := by
  obtain ⟨h0, ⟨A, G, C, cur, h1, h2, h3, h4, h5, h6, h7⟩, h8⟩ := h
  refine ⟨(hb.block _ (block_lt h0)).trans h0, ⟨A, G, C, cur, h1, (hb.block _ (block_lt h2)).trans h2, h3, h4, fun j hj => (h5 j hj).keep (fun hn => hb.block _ ((h5 j hj).lt hn).1), h6, h7⟩, bnext h8 hb⟩
theorem PsQ.called (h : PsQ w w' bx gl p R a0 a1 a2 a3) (hb : Below w'.heap.size w' w2) : PsQ w w2 bx gl p R a0 a1 a2 a3 := by
  have hl := h.1.lt.1
  obtain ⟨h0, h1, h2, h3, h4⟩ := h
  exact ⟨h0.called hb, (hb.cell (p := ⟨gl, p * 5, none⟩) hl).trans h1, (hb.cell (p := ⟨gl, p * 5 + 1, none⟩) hl).trans h2, (hb.cell (p := ⟨gl, p * 5 + 2, none⟩) hl).trans h3, (hb.cell (p := ⟨gl, p * 5 + 3, none⟩) hl).trans h4⟩
/-- The places of the list can be read and written. -/
theorem PsI.cell (h : PsI w w' bx gl p R) (k : Nat) (hk : k < 35) : (∃ z, w'.cell? ⟨gl, k, none⟩ = some z) ∧ w'.frozen? ⟨gl, k, none⟩ = false := by
  obtain ⟨_, ⟨A, G, C, cur, h1, h2, h3, _⟩, _⟩ := h
  refine ⟨?_, unfrozen_of_block h2 k⟩
  rw [cell_of_block h2 k, Array.getElem?_eq_getElem (by omega)]
  exact ⟨_, rfl⟩
/-- A place behind what is laid, written. -/
theorem PsI.set (h : PsI w w' bx gl p R) (k : Nat) (hk : p * 5 ≤ k) (v : Value) : PsI w (w'.setCell ⟨gl, k, none⟩ v) bx gl p R := by
  obtain ⟨h0, ⟨A, G, C, cur, h1, h2, h3, h4, h5, h6, h7⟩, h8⟩ := h
  refine ⟨(heap_setCell_other w' ⟨gl, k, none⟩ _ _ (by show ¬ w.heap.size = gl; omega)).trans h0, ⟨A, G, C, cur.setIfInBounds k v, h1, block_setCell (i := k) h2 v, by simpa using h3, fun j hj => ?_, fun j hj => (h5 j hj).keep (fun hn => heap_setCell_other w' ⟨gl, k, none⟩ _ _ (h6 j hj hn)), h6, h7⟩, Below.setCell (p := ⟨gl, k, none⟩) h8 (by show w.heap.size ≤ gl; omega) _⟩
  have e : ∀ i, i < p * 5 → (cur.setIfInBounds k v)[i]? = cur[i]? := fun i hi => Array.getElem?_setIfInBounds_ne (by omega)
  have q := h4 j hj
  unfold HeadAt at q ⊢
  rw [e _ (by omega), e _ (by omega), e _ (by omega), e _ (by omega), e _ (by omega)]
  exact q
/-- The shape is laid. -/
theorem PsI.shape (h : PsI w w' bx gl p R) (hp : p < 7) (v : Value) : PsQ w (((((w'.setCell ⟨gl, p * 5, none⟩ (.int .i64 a0)).setCell ⟨gl, p * 5 + 1, none⟩ (.int .i64 a1)).setCell ⟨gl, p * 5 + 2, none⟩ (.int .i64 a2)).setCell ⟨gl, p * 5 + 3, none⟩ (.int .i64 a3)).setCell ⟨gl, p * 5 + 4, none⟩ v) bx gl p R a0 a1 a2 a3 := by
  have h0 := h.set (p * 5) (Nat.le_refl _) (.int .i64 a0)
  have h1 := h0.set (p * 5 + 1) (by omega) (.int .i64 a1)
  have h2 := h1.set (p * 5 + 2) (by omega) (.int .i64 a2)
  have h3 := h2.set (p * 5 + 3) (by omega) (.int .i64 a3)
  have h4 := h3.set (p * 5 + 4) (by omega) v
  refine ⟨h4, ?_⟩
  obtain ⟨_, ⟨A, G, C, cur, _, q2, q3, _⟩, _⟩ := h
  have b0 := block_setCell (i := p * 5) q2 (.int .i64 a0)
  have b1 := block_setCell (i := p * 5 + 1) b0 (.int .i64 a1)
  have b2 := block_setCell (i := p * 5 + 2) b1 (.int .i64 a2)
  have b3 := block_setCell (i := p * 5 + 3) b2 (.int .i64 a3)
  have b4 := block_setCell (i := p * 5 + 4) b3 v
  refine ⟨(cell_of_block b4 _).trans ?_, (cell_of_block b4 _).trans ?_, (cell_of_block b4 _).trans ?_, (cell_of_block b4 _).trans ?_⟩
  all_goals
    simp [Array.getElem?_setIfInBounds, q3]
    omega
/-- One pass more: its samples' row is laid. -/
theorem PsQ.next (h : PsQ w w' bx gl p R a0 a1 a2 a3) {S K : Nat} {F : Nat → Int} {B : Nat} (hp : p < 7) (hR : R p = ⟨a0, a1, a2, a3, K, F⟩) (hO : IOwn w' B S K K F) (hB : w.heap.size ≤ B) (hgl : gl < B) (hK : K ≤ maxLen) (hold : ∃ w4 : World, w4.heap.size = B ∧ PsQ w w4 bx gl p R a0 a1 a2 a3 ∧ Below B w4 w') : PsI w (w'.setCell ⟨gl, p * 5 + 4, none⟩ (.slice (some ⟨S, 0, none⟩) K K)) bx gl (p + 1) R := by
  obtain ⟨w4, rfl, hq, hb4⟩ := hold
  have hS := hO.base_le
  obtain ⟨⟨g0, ⟨A, G, C, cur, g1, g2, g3, g4, g5, g6, g7⟩, g8⟩, c0, c1, c2, c3⟩ := hq
  have hk : ∀ b, b < w4.heap.size → b ≠ gl → (w'.setCell ⟨gl, p * 5 + 4, none⟩ (.slice (some ⟨S, 0, none⟩) K K)).heap[b]? = w4.heap[b]? := fun b hb hbn =>
    (heap_setCell_other w' ⟨gl, p * 5 + 4, none⟩ _ _ hbn).trans (hb4.block b hb)
  have g2' : w'.heap[gl]? = some (.cells cur 26 (0, 0)) := (hb4.block _ hgl).trans g2
  rw [cell_of_block g2] at c0 c1 c2 c3
  refine ⟨(hk _ (block_lt g0) (by omega)).trans g0, ⟨fun i => if i = p then some ⟨S, 0, none⟩ else A i, fun i => if i = p then S else G i, fun i => if i = p then K else C i, _, g1, block_setCell (i := p * 5 + 4) g2' _, by simpa using g3, fun j hj => ?_, fun j hj => ?_, fun j hj hn => ?_, fun i j hi hj hij hni hnj => ?_⟩, ?_⟩
  · by_cases e : j = p
    · subst e
      simp only [if_pos]
      rw [hR]
      refine ⟨?_, ?_, ?_, ?_, ?_⟩
      · rw [Array.getElem?_setIfInBounds_ne (by omega)]; exact c0
      · rw [Array.getElem?_setIfInBounds_ne (by omega)]; exact c1
      · rw [Array.getElem?_setIfInBounds_ne (by omega)]; exact c2
      · rw [Array.getElem?_setIfInBounds_ne (by omega)]; exact c3
      · rw [Array.getElem?_setIfInBounds_self_of_lt (by omega)]
    · simp only [if_neg e]
      have q := g4 j (by omega)
      unfold HeadAt at q ⊢
      rw [Array.getElem?_setIfInBounds_ne (by omega), Array.getElem?_setIfInBounds_ne (by omega), Array.getElem?_setIfInBounds_ne (by omega), Array.getElem?_setIfInBounds_ne (by omega), Array.getElem?_setIfInBounds_ne (by omega)]
      exact q
  · by_cases e : j = p
    · subst e
      simp only [if_pos]
      rw [hR]
      refine ⟨Nat.le_refl _, hK, .inr ⟨rfl, ?_⟩⟩
      refine (hO.mono hB).keep (heap_setCell_other w' ⟨gl, j * 5 + 4, none⟩ _ _ (by show ¬ S = gl; omega))
    · simp only [if_neg e]
      have q := g5 j (by omega)
      exact q.keep (fun hn => hk _ (q.lt hn).1 (g6 j (by omega) hn))
  · by_cases e : j = p
    · subst e
      simp only [if_pos]
      omega
    · simp only [if_neg e]
      exact g6 j (by omega) hn
  · by_cases e : i = p
    · subst e
      simp only [if_pos, if_neg (fun h : j = i => hij h.symm)]
      have := ((g5 j (by omega)).lt hnj).1
      omega
    · by_cases e2 : j = p
      · subst e2
        simp only [if_pos, if_neg e]
        have := ((g5 i (by omega)).lt hni).1
        omega
      · simp only [if_neg e, if_neg e2]
        exact g7 i j (by omega) (by omega) hij hni hnj
  · exact Below.setCell (p := ⟨gl, p * 5 + 4, none⟩) (g8.trans (hb4.mono (by omega))) (by show w.heap.size ≤ gl; omega) _
theorem PsI.out (h : PsI w w' bx gl 7 R) : RSL w' w.heap.size (some ⟨gl, 0, none⟩) 7 R := by
  obtain ⟨_, ⟨A, G, C, cur, h1, h2, h3, h4, h5, h6, h7⟩, _⟩ := h
  exact .inr ⟨gl, rfl, A, G, C, by omega, ⟨cur, h2, by omega, h4⟩, h5, h6, h7⟩
end
end Go.Proofs.YtmanafegckibjaaDoor
