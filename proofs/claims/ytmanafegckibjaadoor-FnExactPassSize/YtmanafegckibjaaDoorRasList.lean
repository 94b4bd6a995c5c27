/-
  Lists of rasters: those that came in, and those that a call made itself, with a row of samples each. Nothing here speaks of the program but the number of its type.
-/
import Derived.Test.YtmanafegckibjaaDoorRows
import Derived.Test.YtmanafegckibjaaDoorBase
import Derived.Test.YtmanafegckibjaaDoorOwnLib
import Derived.Test.YtmanafegckibjaaDoorIntsLib
import Derived.WalkKit
import Derived.ProofKit
import Derived.Below
import Derived.Laws.AppendOwn
import Derived.Lib.SmallJoins
namespace Go.Proofs.YtmanafegckibjaaDoor
open Go.RowKit Go.Joins

/-- A raster: four numbers and its samples. -/
structure Ras where
  x0 : Int
  x1 : Int
  x2 : Int
  x3 : Int
  n : Nat
  f : Nat → Int
abbrev rasA (r : Ras) (a : Option Addr) (c : Nat) : Value := .agg #[.int .i64 r.x0, .int .i64 r.x1, .int .i64 r.x2, .int .i64 r.x3, .slice a r.n c]
/-- Alike: the numbers and all samples that there are. -/
def Ras.same (r s : Ras) : Prop := r.x0 = s.x0 ∧ r.x1 = s.x1 ∧ r.x2 = s.x2 ∧ r.x3 = s.x3 ∧ r.n = s.n ∧ ∀ i, i < r.n → r.f i = s.f i
theorem Ras.same.refl (r : Ras) : r.same r := ⟨rfl, rfl, rfl, rfl, rfl, fun _ _ => rfl⟩
theorem Ras.same.symm {r s : Ras} (h : r.same s) : s.same r := ⟨h.1.symm, h.2.1.symm, h.2.2.1.symm, h.2.2.2.1.symm, h.2.2.2.2.1.symm, fun i hi => (h.2.2.2.2.2 i (by rw [h.2.2.2.2.1]; exact hi)).symm⟩
theorem Ras.same.trans {r s t : Ras} (h : r.same s) (k : s.same t) : r.same t := ⟨h.1.trans k.1, h.2.1.trans k.2.1, h.2.2.1.trans k.2.2.1, h.2.2.2.1.trans k.2.2.2.1, h.2.2.2.2.1.trans k.2.2.2.2.1, fun i hi => (h.2.2.2.2.2 i hi).trans (k.2.2.2.2.2 i (by rw [← h.2.2.2.2.1]; exact hi))⟩
/-- Its five cells, from a place of a block on. -/
def RasAt (w : World) (g o : Nat) (r : Ras) (a : Option Addr) (c : Nat) : Prop :=
  w.cell? ⟨g, o, none⟩ = some (.int .i64 r.x0) ∧ w.cell? ⟨g, o + 1, none⟩ = some (.int .i64 r.x1) ∧ w.cell? ⟨g, o + 2, none⟩ = some (.int .i64 r.x2) ∧ w.cell? ⟨g, o + 3, none⟩ = some (.int .i64 r.x3) ∧ w.cell? ⟨g, o + 4, none⟩ = some (.slice a r.n c)
theorem RasAt.same {w : World} {g o : Nat} {r s : Ras} {a : Option Addr} {c : Nat} (h : RasAt w g o r a c) (e : r.same s) : RasAt w g o s a c := by
  obtain ⟨e0, e1, e2, e3, e4, _⟩ := e
  unfold RasAt at h ⊢
  rw [← e0, ← e1, ← e2, ← e3, ← e4]
  exact h
theorem Came.congr14 {w : World} {a : Option Addr} {n : Nat} {f f' : Nat → Int} (h : Came w a n f) (e : ∀ i, i < n → f i = f' i) : Came w a n f' := by
  rcases h with h | ⟨g, off, ha, hg, hc⟩
  · exact .inl h
  · exact .inr ⟨g, off, ha, hg, fun j hj => by rw [← e j hj]; exact hc j hj⟩
theorem Came.same {w : World} {a : Option Addr} {r s : Ras} (h : Came w a r.n r.f) (e : r.same s) : Came w a s.n s.f := by
  rw [← e.2.2.2.2.1]
  exact h.congr14 e.2.2.2.2.2
/-- A list of rasters that came in. -/
def RCame (w : World) (a : Option Addr) (m : Nat) (R : Nat → Ras) : Prop :=
  m = 0 ∨ ∃ (g off : Nat) (A : Nat → Option Addr) (C : Nat → Nat), a = some ⟨g, off, none⟩ ∧ g < w.heap.size ∧ ∀ j, j < m → RasAt w g (off + j * 5) (R j) (A j) (C j) ∧ Came w (A j) (R j).n (R j).f ∧ (R j).n ≤ C j ∧ C j ≤ maxLen
theorem RasAt.keep {w w' : World} {g o : Nat} {r : Ras} {a : Option Addr} {c : Nat} (h : RasAt w g o r a c) (hb : w'.heap[g]? = w.heap[g]?) : RasAt w' g o r a c := by
  have e : ∀ k, w'.cell? ⟨g, k, none⟩ = w.cell? ⟨g, k, none⟩ := fun k => World.cell?_of_block (a := ⟨g, k, none⟩) hb
  unfold RasAt at h ⊢
  simp only [e]
  exact h
theorem RCame.called {w w' : World} {a : Option Addr} {m : Nat} {R : Nat → Ras} (h : RCame w a m R) (hb : Below w.heap.size w w') : RCame w' a m R := by
  rcases h with h | ⟨g, off, A, C, ha, hg, hc⟩
  · exact .inl h
  · exact .inr ⟨g, off, A, C, ha, Nat.lt_of_lt_of_le hg hb.size, fun j hj => ⟨(hc j hj).1.keep (hb.block g hg), (hc j hj).2.1.called hb, (hc j hj).2.2⟩⟩
theorem RCame.congr {w : World} {a : Option Addr} {m : Nat} {R S : Nat → Ras} (h : RCame w a m R) (e : ∀ j, j < m → (R j).same (S j)) : RCame w a m S := by
  rcases h with h | ⟨g, off, A, C, ha, hg, hc⟩
  · exact .inl h
  · exact .inr ⟨g, off, A, C, ha, hg, fun j hj => ⟨(hc j hj).1.same (e j hj), (hc j hj).2.1.same (e j hj), by rw [← (e j hj).2.2.2.2.1]; exact (hc j hj).2.2⟩⟩
/-- A row of samples is the call's own, and stands in its own block. -/
def RowOwn (w : World) (base : Nat) (a : Option Addr) (G n c : Nat) (f : Nat → Int) : Prop := n ≤ c ∧ c ≤ maxLen ∧ (n = 0 ∨ a = some ⟨G, 0, none⟩ ∧ IOwn w base G n c f)
theorem RowOwn.came {w : World} {base : Nat} {a : Option Addr} {G n c : Nat} {f : Nat → Int} (h : RowOwn w base a G n c f) : Came w a n f := by
  obtain ⟨_, _, q⟩ := h
  rcases q with q | ⟨rfl, q⟩
  · exact .inl q
  · exact q.sl.came
theorem RowOwn.keep {w w' : World} {base : Nat} {a : Option Addr} {G n c : Nat} {f : Nat → Int} (h : RowOwn w base a G n c f) (hk : 0 < n → w'.heap[G]? = w.heap[G]?) : RowOwn w' base a G n c f := by
  refine ⟨h.1, h.2.1, ?_⟩
  rcases Nat.eq_zero_or_pos n with e | e
  · exact .inl e
  · rcases h.2.2 with h | ⟨ha, h⟩
    · exact .inl h
    · exact .inr ⟨ha, h.keep (hk e)⟩
theorem RowOwn.lt {w : World} {base : Nat} {a : Option Addr} {G n c : Nat} {f : Nat → Int} (h : RowOwn w base a G n c f) (hn : 0 < n) : G < w.heap.size ∧ base ≤ G := by
  rcases h.2.2 with h | ⟨_, h⟩
  · omega
  · exact ⟨h.lt, h.base_le⟩
/-- Its five cells in a block's cells. -/
def HeadAt (cur : Array Value) (o : Nat) (r : Ras) (a : Option Addr) (c : Nat) : Prop :=
  cur[o]? = some (.int .i64 r.x0) ∧ cur[o + 1]? = some (.int .i64 r.x1) ∧ cur[o + 2]? = some (.int .i64 r.x2) ∧ cur[o + 3]? = some (.int .i64 r.x3) ∧ cur[o + 4]? = some (.slice a r.n c)
/-- A list of rasters of the call's own: the list in its block, each row in one of its own. -/
def ROwnA (w : World) (base g m : Nat) (R : Nat → Ras) (A : Nat → Option Addr) (G C : Nat → Nat) : Prop :=
  base ≤ g ∧ (∃ cur, w.heap[g]? = some (.cells cur 26 (0, 0)) ∧ m * 5 ≤ cur.size ∧ ∀ j, j < m → HeadAt cur (j * 5) (R j) (A j) (C j)) ∧
    (∀ j, j < m → RowOwn w base (A j) (G j) (R j).n (C j) (R j).f) ∧ (∀ j, j < m → 0 < (R j).n → G j ≠ g) ∧ ∀ i j, i < m → j < m → i ≠ j → 0 < (R i).n → 0 < (R j).n → G i ≠ G j
def ROwn (w : World) (base g m : Nat) (R : Nat → Ras) : Prop := ∃ A G C, ROwnA w base g m R A G C
section
variable {w w' : World} {base g m : Nat} {R S : Nat → Ras} {A : Nat → Option Addr} {G C : Nat → Nat}
theorem ROwnA.lt (h : ROwnA w base g m R A G C) : g < w.heap.size := by
  obtain ⟨_, ⟨cur, hc, _⟩, _⟩ := h
  exact block_lt hc
theorem ROwn.lt (h : ROwn w base g m R) : g < w.heap.size := by
  obtain ⟨A, G, C, h⟩ := h
  exact h.lt
theorem ROwnA.keep (h : ROwnA w base g m R A G C) (hk : ∀ b, base ≤ b → b < w.heap.size → w'.heap[b]? = w.heap[b]?) : ROwnA w' base g m R A G C := by
  have hg := h.lt
  obtain ⟨h1, ⟨cur, hc, h2, h3⟩, h4, h5, h6⟩ := h
  exact ⟨h1, ⟨cur, (hk g h1 hg).trans hc, h2, h3⟩, fun j hj => (h4 j hj).keep (fun hn => hk _ ((h4 j hj).lt hn).2 ((h4 j hj).lt hn).1), h5, h6⟩
theorem ROwn.called (h : ROwn w base g m R) (hb : Below w.heap.size w w') : ROwn w' base g m R := by
  obtain ⟨A, G, C, h⟩ := h
  exact ⟨A, G, C, h.keep (fun b _ hb' => hb.block b hb')⟩
theorem ROwnA.at_ (h : ROwnA w base g m R A G C) (j : Nat) (hj : j < m) : RasAt w g (j * 5) (R j) (A j) (C j) := by
  obtain ⟨_, ⟨cur, hc, _, h3⟩, _⟩ := h
  have e : ∀ k, w.cell? ⟨g, k, none⟩ = cur[k]? := fun k => by simp [World.cell?, hc]
  unfold RasAt
  simp only [e]
  exact h3 j hj
theorem ROwnA.free (h : ROwnA w base g m R A G C) (k : Nat) : w.frozen? ⟨g, k, none⟩ = false := by
  obtain ⟨_, ⟨cur, hc, _⟩, _⟩ := h
  simp [World.frozen?, hc]
theorem ROwn.came (h : ROwn w base g m R) : RCame w (some ⟨g, 0, none⟩) m R := by
  obtain ⟨A, G, C, h⟩ := h
  refine .inr ⟨g, 0, A, C, rfl, h.lt, fun j hj => ⟨by rw [Nat.zero_add]; exact h.at_ j hj, (h.2.2.1 j hj).came, (h.2.2.1 j hj).1, (h.2.2.1 j hj).2.1⟩⟩
theorem ROwn.mono {b : Nat} (h : ROwn w base g m R) (hb : b ≤ base) : ROwn w b g m R := by
  obtain ⟨A, G, C, h1, h2, h3, h4⟩ := h
  refine ⟨A, G, C, Nat.le_trans hb h1, h2, fun j hj => ⟨(h3 j hj).1, (h3 j hj).2.1, ?_⟩, h4⟩
  rcases (h3 j hj).2.2 with h | ⟨ha, h⟩
  · exact .inl h
  · exact .inr ⟨ha, h.mono hb⟩
end
/-- A list that was handed back. -/
def RSL (w : World) (base : Nat) (a : Option Addr) (m : Nat) (R : Nat → Ras) : Prop := m = 0 ∨ ∃ g, a = some ⟨g, 0, none⟩ ∧ ROwn w base g m R
theorem RSL.came {w : World} {base : Nat} {a : Option Addr} {m : Nat} {R : Nat → Ras} (h : RSL w base a m R) : RCame w a m R := by
  rcases h with h | ⟨g, rfl, h⟩
  · exact .inl h
  · exact h.came
theorem RSL.called {w w' : World} {base : Nat} {a : Option Addr} {m : Nat} {R : Nat → Ras} (h : RSL w base a m R) (hb : Below w.heap.size w w') : RSL w' base a m R := by
  rcases h with h | ⟨g, rfl, h⟩
  · exact .inl h
  · exact .inr ⟨g, rfl, h.called hb⟩
/-- What a raster is marked with. -/
def markK (R : Nat → Ras) (k : Int) : Nat → Int
  | 0 => k
  | j + 1 => markK R k j + 1 + 1 + 1 + 1 + ((R j).n : Int)
def markR (R : Nat → Ras) (k : Int) (j : Nat) : Ras := ⟨markK R k j, markK R k j + 1, markK R k j + 1 + 1, markK R k j + 1 + 1 + 1, (R j).n, fun i => markK R k j + 1 + 1 + 1 + 1 + i⟩
theorem markK_range (R : Nat → Ras) (k : Int) (N : Nat) (hR : ∀ j, (R j).n ≤ N) : ∀ j : Nat, k ≤ markK R k j ∧ markK R k j ≤ k + (4 + (N : Int)) * j
  | 0 => by simp [markK]
  | j + 1 => by
    have ih := markK_range R k N hR j
    have h2 := hR j
    have e : (4 + (N : Int)) * ((j + 1 : Nat) : Int) = (4 + (N : Int)) * (j : Int) + (4 + (N : Int)) := by rw [Int.natCast_add, Int.mul_add]; simp
    unfold markK
    rw [e]
    omega
end Go.Proofs.YtmanafegckibjaaDoor
