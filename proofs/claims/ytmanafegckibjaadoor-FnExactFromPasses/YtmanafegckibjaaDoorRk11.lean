/-
  The list of passes while the document's model makes it: what stands in memory. Nothing here speaks of the program but the numbers of its types.
  A raster's passes as one list, and the raster out of a list: plain numbers. Nothing here speaks of the program.
  The walk of the model's 'in least .. most'.
-/
import Derived.Test.YtmanafegckibjaaDoorRows
import Derived.Test.YtmanafegckibjaaDoorRk01
import Derived.Test.YtmanafegckibjaaDoorRk02
import Derived.Test.YtmanafegckibjaaDoorRk03
import Derived.Test.YtmanafegckibjaaDoorRk08
import Derived.Test.YtmanafegckibjaaDoorRk10
import Derived.WalkKit
import Derived.ProofKit
import Derived.Below
import Derived.Laws.AppendOwn
import Derived.Deep.AppendLies
import Derived.Lib.SmallJoins
import Derived.WalkLawsBesides
namespace Go.Proofs.YtmanafegckibjaaDoor
open Go.RowKit Go.Joins PassMath

/-- The pass p of a raster. -/
def passR (W H : Nat) (x2 x3 : Int) (N : Nat) (f : Nat → Int) (p : Nat) : Ras := ⟨(pw W H p : Int), (ph W H p : Int), x2, x3, pw W H p * ph W H p * N, passF W H N f p⟩
/-- The cells of the first m rasters of a list. -/
def rcells (R : Nat → Ras) (A : Nat → Option Addr) (C : Nat → Nat) : Nat → List Value
  | 0 => []
  | m + 1 => rcells R A C m ++ [.int .i64 (R m).x0, .int .i64 (R m).x1, .int .i64 (R m).x2, .int .i64 (R m).x3, .slice (A m) (R m).n (C m)]
theorem rcells_succ (R : Nat → Ras) (A : Nat → Option Addr) (C : Nat → Nat) (m : Nat) : rcells R A C (m + 1) = rcells R A C m ++ [.int .i64 (R m).x0, .int .i64 (R m).x1, .int .i64 (R m).x2, .int .i64 (R m).x3, .slice (A m) (R m).n (C m)] := rfl
theorem rcells_length (R : Nat → Ras) (A : Nat → Option Addr) (C : Nat → Nat) : ∀ m, (rcells R A C m).length = m * 5
  | 0 => rfl
  | m + 1 => by simp [rcells, rcells_length R A C m]; omega
theorem rcells_congr (R : Nat → Ras) {A A' : Nat → Option Addr} {C C' : Nat → Nat} : ∀ m, (∀ j, j < m → A j = A' j ∧ C j = C' j) → rcells R A C m = rcells R A' C' m
  | 0, _ => rfl
  | m + 1, h => by
    unfold rcells
    rw [rcells_congr R m (fun j hj => h j (by omega)), (h m (by omega)).1, (h m (by omega)).2]
theorem rcells_get (R : Nat → Ras) (A : Nat → Option Addr) (C : Nat → Nat) : ∀ m j, j < m → (rcells R A C m)[j * 5]? = some (.int .i64 (R j).x0) ∧ (rcells R A C m)[j * 5 + 1]? = some (.int .i64 (R j).x1) ∧ (rcells R A C m)[j * 5 + 2]? = some (.int .i64 (R j).x2) ∧ (rcells R A C m)[j * 5 + 3]? = some (.int .i64 (R j).x3) ∧ (rcells R A C m)[j * 5 + 4]? = some (.slice (A j) (R j).n (C j))
  | 0, j, h => absurd h (Nat.not_lt_zero j)
  | m + 1, j, h => by
    unfold rcells
    by_cases e : j = m
    · subst e
      have hl := rcells_length R A C j
      refine ⟨?_, ?_, ?_, ?_, ?_⟩
      · rw [List.getElem?_append_right (by omega), hl, Nat.sub_self]; rfl
      · rw [List.getElem?_append_right (by omega), hl, Nat.add_sub_cancel_left]; rfl
      · rw [List.getElem?_append_right (by omega), hl, Nat.add_sub_cancel_left]; rfl
      · rw [List.getElem?_append_right (by omega), hl, Nat.add_sub_cancel_left]; rfl
      · rw [List.getElem?_append_right (by omega), hl, Nat.add_sub_cancel_left]; rfl
    · have ih := rcells_get R A C m j (by omega)
      have hl := rcells_length R A C m
      refine ⟨?_, ?_, ?_, ?_, ?_⟩
      · rw [List.getElem?_append_left (by omega)]; exact ih.1
      · rw [List.getElem?_append_left (by omega)]; exact ih.2.1
      · rw [List.getElem?_append_left (by omega)]; exact ih.2.2.1
      · rw [List.getElem?_append_left (by omega)]; exact ih.2.2.2.1
      · rw [List.getElem?_append_left (by omega)]; exact ih.2.2.2.2
/-- What the outer ring has at hand: the raster's box, the list, the rows of p passes. -/
def PassI (w w' : World) (W H N : Nat) (x2 x3 : Int) (f : Nat → Int) (v : Value) (gl cl p : Nat) : Prop :=
  w'.heap[w.heap.size]? = some (.cells #[.int .i64 (W : Int), .int .i64 (H : Int), .int .i64 x2, .int .i64 x3, v] 26 (0, 0)) ∧
  (∃ (A : Nat → Option Addr) (G C : Nat → Nat), w'.ownsRow (w.heap.size + 1) 26 5 (.slice (some ⟨gl, 0, none⟩) p cl) p (rcells (passR W H x2 x3 N f) A C p) ∧ (∀ j, j < p → RowOwn w' (w.heap.size + 1) (A j) (G j) (passR W H x2 x3 N f j).n (C j) (passR W H x2 x3 N f j).f) ∧ ∀ j, j < p → 0 < (passR W H x2 x3 N f j).n → G j ≠ gl) ∧
  Below w.heap.size w w'
theorem passI_start (w : World) (W H N : Nat) (x2 x3 : Int) (f : Nat → Int) (v : Value) : PassI w ((w.alloc (.cells #[.int .i64 (W : Int), .int .i64 (H : Int), .int .i64 x2, .int .i64 x3, v] 26)).alloc (.cells #[] 26)) W H N x2 x3 f v (w.heap.size + 1) 0 0 := by
  refine ⟨?_, ⟨fun _ => none, fun _ => 0, fun _ => 0, ⟨rfl, .inr ⟨w.heap.size + 1, 0, #[], rfl, Nat.le_refl _, ?_, Nat.le_refl _, Nat.zero_le _, rfl, rfl⟩⟩, fun j hj => absurd hj (Nat.not_lt_zero j), fun j hj => absurd hj (Nat.not_lt_zero j)⟩, bal (bstart _ _) _⟩
  · exact (Below.heap_alloc (w.alloc _) _ _ (by simp)).trans (heap_alloc_new w _)
  · have := heap_alloc_new (w.alloc (.cells #[.int .i64 (W : Int), .int .i64 (H : Int), .int .i64 x2, .int .i64 x3, v] 26)) (.cells #[] 26)
    simpa using this
theorem PassI.box {w w' : World} {W H N : Nat} {x2 x3 : Int} {f : Nat → Int} {v : Value} {gl cl p : Nat} (h : PassI w w' W H N x2 x3 f v gl cl p) :
    w'.cell? ⟨w.heap.size, 0, none⟩ = some (.int .i64 (W : Int)) ∧ w'.cell? ⟨w.heap.size, 1, none⟩ = some (.int .i64 (H : Int)) ∧ w'.cell? ⟨w.heap.size, 2, none⟩ = some (.int .i64 x2) ∧ w'.cell? ⟨w.heap.size, 3, none⟩ = some (.int .i64 x3) ∧ w'.cell? ⟨w.heap.size, 4, none⟩ = some v ∧ w.heap.size < w'.heap.size :=
  ⟨(cell_of_block h.1 0).trans rfl, (cell_of_block h.1 1).trans rfl, (cell_of_block h.1 2).trans rfl, (cell_of_block h.1 3).trans rfl, (cell_of_block h.1 4).trans rfl, block_lt h.1⟩
/-- What the inner rings have at hand: the pass under way with k of its samples. -/
def RowI (w1 w' : World) (x0 x1 x2 x3 : Int) (F : Nat → Int) (k : Nat) : Prop := ∃ v, w'.heap[w1.heap.size]? = some (.cells #[.int .i64 x0, .int .i64 x1, .int .i64 x2, .int .i64 x3, v] 26 (0, 0)) ∧ w'.ownsRow (w1.heap.size + 1) 3 1 v k (fints F k) ∧ Below w1.heap.size w1 w'
theorem rowI_start (w1 : World) (x0 x1 x2 x3 : Int) (F : Nat → Int) : RowI w1 (w1.alloc (.cells #[.int .i64 x0, .int .i64 x1, .int .i64 x2, .int .i64 x3, .slice none 0 0] 26)) x0 x1 x2 x3 F 0 := ⟨_, heap_alloc_new w1 _, ⟨rfl, .inl ⟨rfl, rfl⟩⟩, bstart _ _⟩
theorem fints_more (F : Nat → Int) (k n : Nat) : fints F (k + n) = fints F k ++ (List.range n).map fun c => .int .i64 (F (k + c)) := by
  unfold fints
  rw [List.range_add, List.map_append, List.map_map]
  rfl
/-- Behind the append and the store of the row. -/
theorem rowI_next {w1 wr w3 : World} {x0 x1 x2 x3 : Int} {F : Nat → Int} {k n g cap : Nat} {v : Value} (h1 : wr.heap[w1.heap.size]? = some (.cells #[.int .i64 x0, .int .i64 x1, .int .i64 x2, .int .i64 x3, v] 26 (0, 0))) (hB : Below w1.heap.size w1 wr) (hv : ∀ q, v.ownBlock = some q → w1.heap.size + 1 ≤ q) (hO : w3.ownsRow (w1.heap.size + 1) 3 1 (.slice (some ⟨g, 0, none⟩) (k + n) cap) (k + n) (fints F k ++ (List.range n).map fun c => .int .i64 (F (k + c)))) (hg : wr.grownBy w3 v.ownBlock) :
    RowI w1 (w3.setCell ⟨w1.heap.size, 4, none⟩ (.slice (some ⟨g, 0, none⟩) (k + n) cap)) x0 x1 x2 x3 F (k + n) := by
  have hl := block_lt h1
  have h3 : w3.heap[w1.heap.size]? = some (.cells #[.int .i64 x0, .int .i64 x1, .int .i64 x2, .int .i64 x3, v] 26 (0, 0)) := (hg.block _ hl (fun e => by have := hv _ e.symm; omega)).trans h1
  refine ⟨.slice (some ⟨g, 0, none⟩) (k + n) cap, ?_, ?_, ?_⟩
  · simp [World.setCell, Array.getElem?_modify, h3]
  · rw [fints_more]
    obtain ⟨q1, q2⟩ := hO
    refine ⟨q1, ?_⟩
    rcases q2 with ⟨e, _⟩ | ⟨g', c', cur, e, r1, r2, r3⟩
    · cases e
    · refine .inr ⟨g', c', cur, e, r1, ?_, r3⟩
      rw [heap_setCell_other _ _ _ _ (by show ¬ g' = w1.heap.size; omega)]
      exact r2
  · refine Below.setCell ?_ (by exact Nat.le_refl _) _
    exact ⟨hg.os.trans hB.os, hg.tape.trans hB.tape, hg.output.trans hB.output, Nat.le_trans hB.size hg.size, fun b hb => (hg.block b (Nat.lt_of_lt_of_le hb hB.size) (fun e => by have := hv _ e.symm; omega)).trans (hB.block b hb)⟩
theorem own_block_le {w : World} {S n : Nat} {e : TypeId} {m : Nat} {v : Value} {xs : List Value} (h : w.ownsRow S e m v n xs) : ∀ q, v.ownBlock = some q → S ≤ q := by
  intro q hq
  rcases h.2 with ⟨rfl, _⟩ | ⟨g, c, cur, rfl, h1, _⟩
  · cases hq
  · cases hq
    exact h1
theorem row_of_owns {w : World} {S k : Nat} {v : Value} {F : Nat → Int} (h : w.ownsRow S 3 1 v k (fints F k)) : ∃ a G c, v = .slice a k c ∧ RowOwn w S a G k c F ∧ (0 < k → S ≤ G) := by
  rcases h.2 with ⟨rfl, rfl⟩ | ⟨g, c, cur, rfl, h1, h2, h3, h4, h5, h6⟩
  · exact ⟨none, 0, 0, rfl, ⟨Nat.le_refl _, Nat.zero_le _, .inl rfl⟩, fun h => absurd h (Nat.lt_irrefl 0)⟩
  · refine ⟨some ⟨g, 0, none⟩, g, c, rfl, ⟨h3, h4, .inr ⟨rfl, ?_⟩⟩, fun _ => h1⟩
    rw [Nat.mul_one] at h6
    exact ⟨c, cur, (0, 0), by rw [fints_length], h1, h2, .inl rfl, by rw [fints_length]; exact h3, h4, by rw [h5, Nat.mul_one], by rw [fints_length]; exact h6⟩
/-- One pass more behind the others. -/
theorem passI_next {w w1 w5 w6 : World} {W H N : Nat} {x2 x3 : Int} {f : Nat → Int} {v vr : Value} {gl cl p g' cap' : Nat} {A : Nat → Option Addr} {G C : Nat → Nat} {o : Obj}
    (bx : w1.heap[w.heap.size]? = some (.cells #[.int .i64 (W : Int), .int .i64 (H : Int), .int .i64 x2, .int .i64 x3, v] 26 (0, 0)))
    (hL : w1.ownsRow (w.heap.size + 1) 26 5 (.slice (some ⟨gl, 0, none⟩) p cl) p (rcells (passR W H x2 x3 N f) A C p)) (hR : ∀ j, j < p → RowOwn w1 (w.heap.size + 1) (A j) (G j) (passR W H x2 x3 N f j).n (C j) (passR W H x2 x3 N f j).f) (hne : ∀ j, j < p → 0 < (passR W H x2 x3 N f j).n → G j ≠ gl) (hB1 : Below w.heap.size w w1)
    (hO : w5.ownsRow (w1.heap.size + 1) 3 1 vr (pw W H p * ph W H p * N) (fints (passF W H N f p) (pw W H p * ph W H p * N))) (hB : Below w1.heap.size w1 w5)
    (hA : w6.ownsRow (w.heap.size + 1) 26 5 (.slice (some ⟨g', 0, none⟩) (p + 1) cap') (p + 1) (rcells (passR W H x2 x3 N f) A C p ++ [.int .i64 (pw W H p : Int), .int .i64 (ph W H p : Int), .int .i64 x2, .int .i64 x3, vr])) (hg : (w5.alloc o).grownBy w6 (some gl)) (hgg : some gl = some g' ∨ g' = (w5.alloc o).heap.size) : PassI w w6 W H N x2 x3 f v g' cap' (p + 1) := by
  have hgl : w.heap.size + 1 ≤ gl := own_block_le hL gl rfl
  have hglt : gl < w1.heap.size := by
    rcases hL.2 with ⟨e, _⟩ | ⟨g, c, cur, e, _, q, _⟩
    · cases e
    · cases e
      exact block_lt q
  have hsz : (w5.alloc o).heap.size = w5.heap.size + 1 := by simp
  have hblk : ∀ b, b < w1.heap.size → b ≠ gl → w6.heap[b]? = w1.heap[b]? := fun b hb hbn => by
    have h5 : b < w5.heap.size := Nat.lt_of_lt_of_le hb hB.size
    rw [hg.block b (by rw [hsz]; omega) (fun e => hbn (Option.some.inj e)), Below.heap_alloc w5 o b h5]
    exact hB.block b hb
  have hblk5 : ∀ b, b < w5.heap.size → b ≠ gl → w6.heap[b]? = w5.heap[b]? := fun b hb hbn => by
    rw [hg.block b (by rw [hsz]; omega) (fun e => hbn (Option.some.inj e)), Below.heap_alloc w5 o b hb]
  have hs1 := hB1.size
  obtain ⟨ar, Gr, cr, rfl, hrow, hGr⟩ := row_of_owns hO
  have ecell : rcells (passR W H x2 x3 N f) (fun i => if i = p then ar else A i) (fun i => if i = p then cr else C i) (p + 1) = rcells (passR W H x2 x3 N f) A C p ++ [.int .i64 (pw W H p : Int), .int .i64 (ph W H p : Int), .int .i64 x2, .int .i64 x3, .slice ar (pw W H p * ph W H p * N) cr] := by
    rw [rcells_succ, rcells_congr (A' := A) (C' := C) _ p (fun j hj => by simp [show ¬ j = p by omega])]
    simp only [if_pos]
    rfl
  refine ⟨(hblk _ (by have := block_lt bx; omega) (by omega)).trans bx, ⟨_, fun i => if i = p then Gr else G i, _, by rw [ecell]; exact hA, fun j hj => ?_, fun j hj hn => ?_⟩, ?_⟩
  · by_cases e : j = p
    · subst e
      simp only [if_pos]
      refine (show RowOwn w5 (w.heap.size + 1) ar Gr (passR W H x2 x3 N f j).n cr (passR W H x2 x3 N f j).f from ⟨hrow.1, hrow.2.1, ?_⟩).keep (fun hn => hblk5 _ (hrow.lt hn).1 (by have := hGr hn; omega))
      rcases hrow.2.2 with q | ⟨q1, q2⟩
      · exact .inl q
      · exact .inr ⟨q1, q2.mono (by omega)⟩
    · simp only [if_neg e]
      exact (hR j (by omega)).keep (fun hn => hblk _ ((hR j (by omega)).lt hn).1 (hne j (by omega) hn))
  · by_cases e : j = p
    · subst e
      simp only [if_pos]
      have h1 := hGr hn
      have h2 := (hrow.lt hn).1
      rcases hgg with q | q
      · have := Option.some.inj q
        omega
      · omega
    · simp only [if_neg e]
      have h1 := hne j (by omega) hn
      have h2 := ((hR j (by omega)).lt hn).1
      have h3 := hB.size
      rcases hgg with q | q
      · rw [← Option.some.inj q]
        exact h1
      · omega
  · refine ⟨?_, ?_, ?_, ?_, fun b hb => ?_⟩
    · exact hg.os.trans (hB.os.trans hB1.os)
    · exact hg.tape.trans (hB.tape.trans hB1.tape)
    · exact hg.output.trans (hB.output.trans hB1.output)
    · have := hg.size
      have := hB.size
      omega
    · rw [hblk b (by omega) (by omega)]
      exact hB1.block b hb
/-- The list is handed back. -/
theorem PassI.out {w w' : World} {W H N : Nat} {x2 x3 : Int} {f : Nat → Int} {v : Value} {gl cl p : Nat} (h : PassI w w' W H N x2 x3 f v gl cl p) : RCame w' (some ⟨gl, 0, none⟩) p (passR W H x2 x3 N f) := by
  obtain ⟨_, ⟨A, G, C, hL, hR, _⟩, _⟩ := h
  rcases hL.2 with ⟨e, _⟩ | ⟨g, c, cur, e, h1, h2, h3, h4, h5, h6⟩
  · cases e
  · cases e
    refine .inr ⟨gl, 0, A, C, rfl, block_lt h2, fun j hj => ⟨?_, (hR j hj).came, (hR j hj).1, (hR j hj).2.1⟩⟩
    have hc : ∀ k, k < p * 5 → w'.cell? ⟨gl, k, none⟩ = (rcells (passR W H x2 x3 N f) A C p)[k]? := fun k hk => by
      rw [cell_of_block h2 k, ← h6, List.getElem?_take, if_pos hk]
      simp
    have q := rcells_get (passR W H x2 x3 N f) A C p j hj
    unfold RasAt
    rw [Nat.zero_add, hc _ (by omega), hc _ (by omega), hc _ (by omega), hc _ (by omega), hc _ (by omega)]
    exact q
end Go.Proofs.YtmanafegckibjaaDoor

namespace Go.Proofs.YtmanafegckibjaaDoor
open Go.RowKit RastMath PassMath

/-- The passes of a raster, as one list; of one that is not right there are none. -/
def passesR (r : Ras) : Nat → Ras := passR r.x0.toNat r.x1.toNat r.x2 r.x3 (chan r.x2).toNat r.f
def RasOk (r : Ras) : Prop := RasR r.x0 r.x1 r.x2 r.x3 r.n r.f
/-- What a raster that is right has besides. -/
theorem ras_parts {r : Ras} (h : RasOk r) : ∃ W H N : Nat, r.x0 = (W : Int) ∧ r.x1 = (H : Int) ∧ chan r.x2 = (N : Int) ∧ (1 ≤ W ∧ W ≤ 24) ∧ (1 ≤ H ∧ H ≤ 24) ∧ (1 ≤ N ∧ N ≤ 4) ∧ r.n = W * H * N ∧ passesR r = passR W H r.x2 r.x3 N r.f := by
  obtain ⟨h0, h1, h2, h3, _⟩ := h
  have hc1 := chan_pos h2
  have hc2 := chan_range r.x2
  unfold SideR at h0 h1
  refine ⟨r.x0.toNat, r.x1.toNat, (chan r.x2).toNat, by omega, by omega, by omega, by omega, by omega, by omega, ?_, rfl⟩
  have e0 : ((r.x0.toNat : Nat) : Int) = r.x0 := by omega
  have e1 : ((r.x1.toNat : Nat) : Int) = r.x1 := by omega
  have e2 : (((chan r.x2).toNat : Nat) : Int) = chan r.x2 := by omega
  have : (r.n : Int) = ((r.x0.toNat * r.x1.toNat * (chan r.x2).toNat : Nat) : Int) := by
    rw [h3, Int.natCast_mul, Int.natCast_mul, e0, e1, e2]
  exact Int.ofNat.inj this
theorem passes_small {r : Ras} (h : RasOk r) (p : Nat) : (passesR r p).n ≤ 2304 := by
  obtain ⟨W, H, N, _, _, _, hW, hH, hN, _, e⟩ := ras_parts h
  rw [e]
  show pw W H p * ph W H p * N ≤ 2304
  have h1 := Nat.mul_le_mul (Nat.le_trans (pw_le W H p) hW.2) (Nat.le_trans (ph_le W H p) hH.2)
  exact Nat.le_trans (Nat.mul_le_mul h1 hN.2) (by omega)
/-- The raster that a list of passes would come of. -/
def joinR (W H : Int) (R : Nat → Ras) : Ras := ⟨W, H, (R 0).x2, (R 0).x3, W.toNat * H.toNat * (chan (R 0).x2).toNat, joinF W.toNat H.toNat (chan (R 0).x2).toNat (fun p k => (R p).f k)⟩
/-- Is there a right raster of this size whose passes these are? -/
def FromR (W H : Int) (m : Nat) (R : Nat → Ras) : Prop := m = 7 ∧ RasOk (joinR W H R) ∧ ∀ p, p < 7 → (R p).same (passesR (joinR W H R) p)
theorem RasOk.same {r s : Ras} (h : RasOk r) (e : r.same s) : RasOk s := by
  obtain ⟨e0, e1, e2, e3, e4, e5⟩ := e
  unfold RasOk RasR at h ⊢
  rw [← e0, ← e1, ← e2, ← e3, ← e4]
  refine ⟨h.1, h.2.1, h.2.2.1, h.2.2.2.1, fun i hi => ?_⟩
  rw [← e5 i hi]
  exact h.2.2.2.2 i hi
/-- P14: a right raster comes back from its passes. -/
theorem join_passes {r : Ras} (h : RasOk r) {R : Nat → Ras} (hR : ∀ p, p < 7 → (R p).same (passesR r p)) : (joinR r.x0 r.x1 R).same r ∧ FromR r.x0 r.x1 7 R := by
  obtain ⟨W, H, N, e0, e1, e2, hW, hH, hN, hn, ep⟩ := ras_parts h
  have c2 : (R 0).x2 = r.x2 := (hR 0 (by omega)).2.2.1
  have c3 : (R 0).x3 = r.x3 := (hR 0 (by omega)).2.2.2.1
  have ej : joinR r.x0 r.x1 R = ⟨r.x0, r.x1, r.x2, r.x3, W * H * N, joinF W H N (fun p k => (R p).f k)⟩ := by
    unfold joinR
    rw [c2, c3, e0, e1, e2]
    rfl
  have hs : (joinR r.x0 r.x1 R).same r := by
    rw [ej]
    refine ⟨rfl, rfl, rfl, rfl, hn.symm, fun i hi => ?_⟩
    show joinF W H N (fun p k => (R p).f k) i = r.f i
    refine pass_join hN.1 hW hH.2 r.f (fun p hp k hk => ?_) hi
    have q := (hR p hp)
    rw [ep] at q
    exact q.2.2.2.2.2 k (by rw [q.2.2.2.2.1]; exact hk)
  refine ⟨hs, rfl, h.same hs.symm, fun p hp => ?_⟩
  refine (hR p hp).trans ?_
  rw [ep]
  unfold passesR
  rw [ej]
  show (passR W H r.x2 r.x3 N r.f p).same (passR r.x0.toNat r.x1.toNat r.x2 r.x3 (chan r.x2).toNat (joinF W H N fun p k => (R p).f k) p)
  rw [e0, e1, e2]
  refine ⟨rfl, rfl, rfl, rfl, rfl, fun k hk => ?_⟩
  have hk' : k < pw W H p * ph W H p * N := hk
  show passF W H N r.f p k = passF W H N (joinF W H N fun p k => (R p).f k) p k
  rw [join_pass hN.1 hW.2 hH.2 _ hp hk']
  have q := hR p hp
  rw [ep] at q
  exact (q.2.2.2.2.2 k (by rw [q.2.2.2.2.1]; exact hk)).symm
end Go.Proofs.YtmanafegckibjaaDoor

namespace Go.Proofs.YtmanafegckibjaaDoor
open Go.RowKit

theorem in_yes (x a b : Int) (w : World) (h1 : a ≤ x) (h2 : x ≤ b) :
    Calls Tryd.prog 42 #[.int .i64 x, .int .i64 a, .int .i64 b] w fun e w' => e = .returned (.bool true) ∧ w' = w := by
  go_enter Tryd.func42, Tryd.ntmps42
  go_wp2
  go_ret
  exact ⟨rfl, rfl⟩

theorem in_no (x a b : Int) (w : World) (h : ¬ (a ≤ x ∧ x ≤ b)) :
    Calls Tryd.prog 42 #[.int .i64 x, .int .i64 a, .int .i64 b] w fun e w' => e = .returned (.bool false) ∧ w' = w := by
  by_cases h1 : a ≤ x
  · have h2 : ¬ x ≤ b := fun k => h ⟨h1, k⟩
    clear h
    go_enter Tryd.func42, Tryd.ntmps42
    go_wp2
    go_ret
    exact ⟨rfl, rfl⟩
  · clear h
    go_enter Tryd.func42, Tryd.ntmps42
    go_wp2
    go_ret
    exact ⟨rfl, rfl⟩

end Go.Proofs.YtmanafegckibjaaDoor
