/-
  The walk of the program's offer of a token at a place, and of the step that is taken at a place.
-/
import Derived.Test.YtihcapfdpgaeiaaRows
import Derived.Test.YtihcapfdpgaeiaaBase
import Derived.Test.YtihcapfdpgaeiaaTokMath
import Derived.Test.YtihcapfdpgaeiaaTriLib
import Derived.Test.YtihcapfdpgaeiaaTokMark
import Derived.Test.YtihcapfdpgaeiaaIntsLib
import Derived.Test.YtihcapfdpgaeiaaSearchMath
import Derived.Test.YtihcapfdpgaeiaaCheapMath
import Derived.Test.YtihcapfdpgaeiaaPriceImpl
import Derived.Test.YtihcapfdpgaeiaaMatchImpl
import Derived.Test.YtihcapfdpgaeiaaWalkImpl
import Derived.WalkKit
import Derived.ProofKit
import Derived.WalkLawsBesides
import Derived.RegionTactic
import Derived.BigRegion
import Derived.BigQuiet
import Derived.Deep.RegionHeld3
import Derived.Below
import Derived.Lib.SmallJoins
namespace Go.Proofs.Ytihcapfdpgaeiaa
open Go.RowKit Go.Joins TokMath SearchMath CheapMath

/-- The costs and the steps so far, each list behind a box of its own. -/
def CS (w wr : World) (N : Nat) (C : Nat → Int) (F : Nat → Tok) : Prop :=
  IOwn wr w.heap.size w.heap.size (N + 1) (N + 1) C ∧ TOwn wr w.heap.size (w.heap.size + 2) N F ∧ wr.heap[w.heap.size + 1]? = some (.cells #[.slice (some ⟨w.heap.size, 0, none⟩) (N + 1) (N + 1)] 25 (0, 0)) ∧ wr.heap[w.heap.size + 3]? = some (.cells #[.slice (some ⟨w.heap.size + 2, 0, none⟩) N N] 27 (0, 0)) ∧ Below w.heap.size w wr
section
variable {w wr w' : World} {N : Nat} {C : Nat → Int} {F : Nat → Tok}
theorem CS.keep (h : CS w wr N C F) (hk : ∀ k, k < w.heap.size + 4 → w'.heap[k]? = wr.heap[k]?) (hB : Below w.heap.size w w') : CS w w' N C F :=
  ⟨h.1.keep (hk _ (by omega)), h.2.1.keep (hk _ (by omega)), (hk _ (by omega)).trans h.2.2.1, (hk _ (by omega)).trans h.2.2.2.1, hB⟩
theorem CS.size (h : CS w wr N C F) : w.heap.size + 4 ≤ wr.heap.size := block_lt h.2.2.2.1
theorem CS.called (h : CS w wr N C F) (hb : Below wr.heap.size wr w') : CS w w' N C F :=
  h.keep (fun k hk => hb.block k (Nat.lt_of_lt_of_le hk h.size)) (h.2.2.2.2.trans (hb.mono h.2.2.2.2.size))
theorem CS.same (h : CS w wr N C F) (e : w'.heap = wr.heap) (hB : Below w.heap.size w w') : CS w w' N C F := h.keep (fun k _ => by rw [e]) hB
theorem CS.setC (h : CS w wr N C F) (j : Nat) (hj : j < N + 1) (x : Int) : CS w (wr.setCell ⟨w.heap.size, j, none⟩ (.int .i64 x)) N (upd C j x) F := by
  have hk : ∀ k, k ≠ w.heap.size → (wr.setCell ⟨w.heap.size, j, none⟩ (.int .i64 x)).heap[k]? = wr.heap[k]? := fun k hk => Below.heap_setCell _ _ _ _ hk
  exact ⟨h.1.set j hj x, h.2.1.keep (hk _ (by omega)), (hk _ (by omega)).trans h.2.2.1, (hk _ (by omega)).trans h.2.2.2.1, h.2.2.2.2.setCell (p := ⟨w.heap.size, j, none⟩) (Nat.le_refl _) _⟩
theorem CS.setT (h : CS w wr N C F) (j : Nat) (hj : j < N) (x y z : Int) : CS w (((wr.setCell ⟨w.heap.size + 2, j * 3, none⟩ (.int .i64 x)).setCell ⟨w.heap.size + 2, j * 3 + 1, none⟩ (.int .i64 y)).setCell ⟨w.heap.size + 2, j * 3 + 2, none⟩ (.int .i64 z)) N C (updT F j (x, y, z)) := by
  have hk : ∀ k, k ≠ w.heap.size + 2 → (((wr.setCell ⟨w.heap.size + 2, j * 3, none⟩ (.int .i64 x)).setCell ⟨w.heap.size + 2, j * 3 + 1, none⟩ (.int .i64 y)).setCell ⟨w.heap.size + 2, j * 3 + 2, none⟩ (.int .i64 z)).heap[k]? = wr.heap[k]? := fun k hk => ((Below.heap_setCell _ _ _ _ hk).trans (Below.heap_setCell _ _ _ _ hk)).trans (Below.heap_setCell _ _ _ _ hk)
  refine ⟨h.1.keep (hk _ (by omega)), h.2.1.set j hj x y z, (hk _ (by omega)).trans h.2.2.1, (hk _ (by omega)).trans h.2.2.2.1, ?_⟩
  exact ((h.2.2.2.2.setCell (p := ⟨w.heap.size + 2, j * 3, none⟩) (by show w.heap.size ≤ w.heap.size + 2; omega) _).setCell (p := ⟨w.heap.size + 2, j * 3 + 1, none⟩) (by show w.heap.size ≤ w.heap.size + 2; omega) _).setCell (p := ⟨w.heap.size + 2, j * 3 + 2, none⟩) (by show w.heap.size ≤ w.heap.size + 2; omega) _
theorem CS.congr {C' : Nat → Int} {F' : Nat → Tok} (h : CS w wr N C F) (hC : ∀ i, i < N + 1 → C i = C' i) (hF : ∀ i, i < N → F i = F' i) : CS w wr N C' F' := ⟨h.1.congr hC, h.2.1.congr hF, h.2.2⟩
theorem CS.tok (h : CS w wr N C F) (j : Nat) (hj : j < N) : wr.cell? ⟨w.heap.size + 2, j * 3, none⟩ = some (.int .i64 (F j).1) ∧ wr.cell? ⟨w.heap.size + 2, j * 3 + 1, none⟩ = some (.int .i64 (F j).2.1) ∧ wr.cell? ⟨w.heap.size + 2, j * 3 + 2, none⟩ = some (.int .i64 (F j).2.2) := by
  obtain ⟨_, cur, h1, _, h3⟩ := h.2.1
  obtain ⟨q0, q1, q2⟩ := h3 j hj
  exact ⟨(cell_of_block h1 _).trans q0, (cell_of_block h1 _).trans q1, (cell_of_block h1 _).trans q2⟩
end

/-- The step that is taken at a place. -/
theorem taken_any (w0 : World) (N : Nat) (C : Nat → Int) (F : Nat → Tok) (t : Nat) (w : World) (h : CS w0 w N C F) (ht : t < N) (_ : N ≤ 2600) :
    Calls Try.prog 53 #[.int .i64 (t : Int), .pointer (some ⟨w0.heap.size + 3, 0, none⟩)] w fun e w' => e = .returned (tokV (F t)) ∧ Below w.heap.size w w' := by
  have hz := h.size
  obtain ⟨c0, c1, c2⟩ := h.tok t ht
  have b0 : w.cell? ⟨w0.heap.size + 3, 0, none⟩ = some (.slice (some ⟨w0.heap.size + 2, 0, none⟩) N N) := (cell_of_block h.2.2.2.1 0).trans rfl
  obtain ⟨⟨x, y, z⟩, hr⟩ : ∃ r, r = F t := ⟨_, rfl⟩
  rw [← hr] at c0 c1 c2 ⊢
  have i0 : (0 : Int) ≤ (t : Int) := by omega
  have i1 : (t : Int) < (N : Int) := by omega
  have a0 : ∀ o, (w.alloc o).cell? ⟨w0.heap.size + 2, t * 3, none⟩ = some (.int .i64 x) := fun o => (grow_cell o (by omega) _).trans c0
  have a1 : ∀ o, (w.alloc o).cell? ⟨w0.heap.size + 2, t * 3 + 1, none⟩ = some (.int .i64 y) := fun o => (grow_cell o (by omega) _).trans c1
  have a2 : ∀ o, (w.alloc o).cell? ⟨w0.heap.size + 2, t * 3 + 2, none⟩ = some (.int .i64 z) := fun o => (grow_cell o (by omega) _).trans c2
  have a3 : ∀ o, (w.alloc o).cell? ⟨w0.heap.size + 3, 0, none⟩ = some (.slice (some ⟨w0.heap.size + 2, 0, none⟩) N N) := fun o => (grow_cell o (by omega) _).trans b0
  have HEND : Hid (Below w.heap.size w (w.alloc (.cells #[.int .i64 x, .int .i64 y, .int .i64 z] 51))) := bstart _ _
  clear hr h c0 c1 c2 b0
  go_enter Try.func53, Try.ntmps53
  go_wp2_with fail
  exact bodyPost_ret (v := .agg #[.int .i64 x, .int .i64 y, .int .i64 z]) (by simp [results, Try.results53, go_sem]) rfl ⟨rfl, HEND.out⟩

/-- What an offer leaves: what costs less is taken, else nothing is. -/
def OfferPost (w0 : World) (N : Nat) (C : Nat → Int) (F : Nat → Tok) (t : Nat) (T : Tok) (w' : World) : Prop :=
  (costT T + C (t + sizeT T) < C t ∧ CS w0 w' N (upd C t (costT T + C (t + sizeT T))) (updT F t T)) ∨ (¬ costT T + C (t + sizeT T) < C t ∧ CS w0 w' N C F)

/-- What an offer leaves alone: every old block but the two lists' own. -/
def Spared (w0 w w' : World) : Prop := ∀ k, k < w.heap.size → k ≠ w0.heap.size → k ≠ w0.heap.size + 2 → w'.heap[k]? = w.heap[k]?

theorem three_b {w0 w : World} (h : Below w0.heap.size w0 w) (t : Nat) (p x y q : Int) : Below w0.heap.size w0 ((((w.setCell ⟨w0.heap.size, t, none⟩ (.int .i64 p)).setCell ⟨w0.heap.size + 2, t * 3, none⟩ (.int .i64 x)).setCell ⟨w0.heap.size + 2, t * 3 + 1, none⟩ (.int .i64 y)).setCell ⟨w0.heap.size + 2, t * 3 + 2, none⟩ (.int .i64 q)) :=
  (((h.setCell (p := ⟨w0.heap.size, t, none⟩) (Nat.le_refl _) _).setCell (p := ⟨w0.heap.size + 2, t * 3, none⟩) (by show w0.heap.size ≤ w0.heap.size + 2; omega) _).setCell (p := ⟨w0.heap.size + 2, t * 3 + 1, none⟩) (by show w0.heap.size ≤ w0.heap.size + 2; omega) _).setCell (p := ⟨w0.heap.size + 2, t * 3 + 2, none⟩) (by show w0.heap.size ≤ w0.heap.size + 2; omega) _

set_option maxHeartbeats 3200000 in
theorem offer_any (w0 : World) (N : Nat) (C : Nat → Int) (F : Nat → Tok) (t : Nat) (x y q : Int) (w : World) (h : CS w0 w N C F) (ht : t < N) (hN : N ≤ 2600) (wy : (Lit.int .i64 y).wf = true) (wq : (Lit.int .i64 q).wf = true) (hy : 0 ≤ y) (hin : t + sizeT (x, y, q) ≤ N) (h1 : 1 ≤ sizeT (x, y, q)) (hC : 0 ≤ C (t + sizeT (x, y, q)) ∧ C (t + sizeT (x, y, q)) ≤ 100000) :
    Calls Try.prog 52 #[.int .i64 (t : Int), .agg #[.int .i64 x, .int .i64 y, .int .i64 q], .pointer (some ⟨w0.heap.size + 1, 0, none⟩), .pointer (some ⟨w0.heap.size + 3, 0, none⟩)] w fun e w' => e = .returned (.tuple #[]) ∧ OfferPost w0 N C F t (x, y, q) w' ∧ Spared w0 w w' := by
  have hmx := step_max hy (x, y, q) rfl
  have hpr := fun w => price_any x y q w wy wq
  have hss := fun w => stepSize_any x y q w
  rw [hmx] at hss
  have hcr := cost_range (x, y, q)
  have HPO : Hid (∀ w', OfferPost w0 N C F t (x, y, q) w' ↔ ((costT (x, y, q) + C (t + sizeT (x, y, q)) < C t ∧ CS w0 w' N (upd C t (costT (x, y, q) + C (t + sizeT (x, y, q)))) (updT F t (x, y, q))) ∨ (¬ costT (x, y, q) + C (t + sizeT (x, y, q)) < C t ∧ CS w0 w' N C F))) := fun w' => Iff.rfl
  generalize costT (x, y, q) = P at hpr hcr HPO
  generalize sizeT (x, y, q) = z at hss hin h1 hC HPO
  clear hmx wy wq
  have HH := hid_of h
  have hz := h.size
  obtain ⟨W1, hW1⟩ : ∃ W, W = w.alloc (.cells #[.int .i64 x, .int .i64 y, .int .i64 q] 51) := ⟨_, rfl⟩
  have hc1 : CS w0 W1 N C F := by rw [hW1]; exact h.called (bstart _ _)
  have hb1 : W1.heap[w.heap.size]? = some (.cells #[.int .i64 x, .int .i64 y, .int .i64 q] 51 (0, 0)) := by rw [hW1]; exact heap_alloc_new _ _
  have k0 : W1.cell? ⟨w.heap.size, 0, none⟩ = some (.int .i64 x) := (cell_of_block hb1 0).trans rfl
  have k1 : W1.cell? ⟨w.heap.size, 1, none⟩ = some (.int .i64 y) := (cell_of_block hb1 1).trans rfl
  have k2 : W1.cell? ⟨w.heap.size, 2, none⟩ = some (.int .i64 q) := (cell_of_block hb1 2).trans rfl
  have k3 : W1.cell? ⟨w0.heap.size + 1, 0, none⟩ = some (.slice (some ⟨w0.heap.size, 0, none⟩) (N + 1) (N + 1)) := (cell_of_block hc1.2.2.1 0).trans rfl
  have k4 := hc1.1.cell (t + z) (by omega)
  have hl1 := block_lt hb1
  have HK1 : Hid (∀ k, k < w.heap.size → W1.heap[k]? = w.heap[k]?) := fun k hk => by
    rw [hW1]
    exact (bstart _ _).block k hk
  have HC1 := hid_of hc1
  have HB1 := hid_of hb1
  have HW1 := hid_of hW1
  generalize hV : C (t + z) = V at k4 hC HPO
  have z1 : (0 : Int) ≤ (t : Int) + (z : Int) := by omega
  have z2 : (t : Int) + (z : Int) < ((N + 1 : Nat) : Int) := by omega
  have z3 : ((t : Int) + (z : Int)).toNat = t + z := by omega
  have z4 : (t : Int) + (z : Int) < (N : Int) + 1 := by omega
  have z5 : IntKind.i64.wrap ((t : Int) + (z : Int)) = (t : Int) + (z : Int) := by
    rw [IntKind.wrap_i64]
    omega
  have z6 : IntKind.i64.wrap (P + V) = P + V := by
    rw [IntKind.wrap_i64]
    omega
  clear h hc1 hb1 hW1 hV
  go_enter Try.func52, Try.ntmps52
  go_wp2_with fail
  rw [← HW1.out]
  clear HW1
  go_region_held3 (fun w' => w'.cell? ⟨w.heap.size, 0, none⟩ = some (.int .i64 x) ∧ w'.cell? ⟨w.heap.size, 1, none⟩ = some (.int .i64 y) ∧ w'.cell? ⟨w.heap.size, 2, none⟩ = some (.int .i64 q) ∧ w'.cell? ⟨w0.heap.size + 1, 0, none⟩ = some (.slice (some ⟨w0.heap.size, 0, none⟩) (N + 1) (N + 1)) ∧ w'.cell? ⟨w0.heap.size, t + z, none⟩ = some (.int .i64 V))
    (refine ⟨?_, ?_, ?_, ?_, ?_⟩ <;> first | assumption | go_keep | (simp [*]; done))
    (first
      | (go_at_call 40; have HX := HC3; refine (hpr _).mono ?_; rintro e w4 ⟨rfl, hb4⟩; have u0 := (hb4.cell (p := ⟨w.heap.size, 0, none⟩) hl3).trans i0; have u1 := (hb4.cell (p := ⟨w.heap.size, 1, none⟩) hl3).trans i1; have u2 := (hb4.cell (p := ⟨w.heap.size, 2, none⟩) hl3).trans i2; have u3 := (hb4.cell (p := ⟨w0.heap.size + 1, 0, none⟩) (by show w0.heap.size + 1 < _; omega)).trans i3; have u4 := (hb4.cell (p := ⟨w0.heap.size, t + z, none⟩) (by show w0.heap.size < _; omega)).trans i4; have HC4 := hid_of (HC3.out.called hb4); have HK4 : Hid (∀ k, k < w.heap.size → w4.heap[k]? = w.heap[k]?) := (fun k hk => (hb4.block k (Nat.lt_trans hk hl3)).trans (HK3.out k hk)); have HB4 := hid_of ((hb4.block _ hl3).trans HB3.out); clear hb4 HX)
      | (go_at_call 49; have HX := HC3; refine (hss _).mono ?_; rintro e w4 ⟨rfl, hb4⟩; have u0 := (hb4.cell (p := ⟨w.heap.size, 0, none⟩) hl3).trans i0; have u1 := (hb4.cell (p := ⟨w.heap.size, 1, none⟩) hl3).trans i1; have u2 := (hb4.cell (p := ⟨w.heap.size, 2, none⟩) hl3).trans i2; have u3 := (hb4.cell (p := ⟨w0.heap.size + 1, 0, none⟩) (by show w0.heap.size + 1 < _; omega)).trans i3; have u4 := (hb4.cell (p := ⟨w0.heap.size, t + z, none⟩) (by show w0.heap.size < _; omega)).trans i4; have HC4 := hid_of (HC3.out.called hb4); have HK4 : Hid (∀ k, k < w.heap.size → w4.heap[k]? = w.heap[k]?) := (fun k hk => (hb4.block k (Nat.lt_trans hk hl3)).trans (HK3.out k hk)); have HB4 := hid_of ((hb4.block _ hl3).trans HB3.out); clear hb4 HX)
      | (go_at_call 40; refine (hpr _).mono ?_; rintro e w3 ⟨rfl, hb3⟩; have i0 := (hb3.cell (p := ⟨w.heap.size, 0, none⟩) hl1).trans k0; have i1 := (hb3.cell (p := ⟨w.heap.size, 1, none⟩) hl1).trans k1; have i2 := (hb3.cell (p := ⟨w.heap.size, 2, none⟩) hl1).trans k2; have i3 := (hb3.cell (p := ⟨w0.heap.size + 1, 0, none⟩) (by show w0.heap.size + 1 < W1.heap.size; omega)).trans k3; have i4 := (hb3.cell (p := ⟨w0.heap.size, t + z, none⟩) (by show w0.heap.size < W1.heap.size; omega)).trans k4; have HC3 : Hid (CS w0 w3 N C F) := HC1.out.called ⟨hb3.1, hb3.2, hb3.3, hb3.4, hb3.5⟩; have HB3 := hid_of ((hb3.block _ hl1).trans HB1.out); have HK3 : Hid (∀ k, k < w.heap.size → w3.heap[k]? = w.heap[k]?) := (fun k hk => (hb3.block k (Nat.lt_trans hk hl1)).trans (HK1.out k hk)); have hl3 : w.heap.size < w3.heap.size := Nat.lt_of_lt_of_le hl1 hb3.size; clear hb3)
      | (go_at_call 49; refine (hss _).mono ?_; rintro e w3 ⟨rfl, hb3⟩; have i0 := (hb3.cell (p := ⟨w.heap.size, 0, none⟩) hl1).trans k0; have i1 := (hb3.cell (p := ⟨w.heap.size, 1, none⟩) hl1).trans k1; have i2 := (hb3.cell (p := ⟨w.heap.size, 2, none⟩) hl1).trans k2; have i3 := (hb3.cell (p := ⟨w0.heap.size + 1, 0, none⟩) (by show w0.heap.size + 1 < W1.heap.size; omega)).trans k3; have i4 := (hb3.cell (p := ⟨w0.heap.size, t + z, none⟩) (by show w0.heap.size < W1.heap.size; omega)).trans k4; have HC3 : Hid (CS w0 w3 N C F) := HC1.out.called ⟨hb3.1, hb3.2, hb3.3, hb3.4, hb3.5⟩; have HB3 := hid_of ((hb3.block _ hl1).trans HB1.out); have HK3 : Hid (∀ k, k < w.heap.size → w3.heap[k]? = w.heap[k]?) := (fun k hk => (hb3.block k (Nat.lt_trans hk hl1)).trans (HK1.out k hk)); have hl3 : w.heap.size < w3.heap.size := Nat.lt_of_lt_of_le hl1 hb3.size; clear hb3))
  clear k0 k1 k2 k3 k4 i0 i1 i2 i3 i4 HC1 HB1 HC3 HB3 hl1 hl3 z1 z2 z3 z4 z5 z6 u0 u1 u2 u3 u4 hpr hss
  have hc4 := HC4.out
  have hb4 := HB4.out
  have k0 : w4.cell? ⟨w.heap.size, 0, none⟩ = some (.int .i64 x) := (cell_of_block hb4 0).trans rfl
  have k1 : w4.cell? ⟨w.heap.size, 1, none⟩ = some (.int .i64 y) := (cell_of_block hb4 1).trans rfl
  have k2 : w4.cell? ⟨w.heap.size, 2, none⟩ = some (.int .i64 q) := (cell_of_block hb4 2).trans rfl
  have k3 : w4.cell? ⟨w0.heap.size + 1, 0, none⟩ = some (.slice (some ⟨w0.heap.size, 0, none⟩) (N + 1) (N + 1)) := (cell_of_block hc4.2.2.1 0).trans rfl
  have k4 : w4.cell? ⟨w0.heap.size + 3, 0, none⟩ = some (.slice (some ⟨w0.heap.size + 2, 0, none⟩) N N) := (cell_of_block hc4.2.2.2.1 0).trans rfl
  have k5 := hc4.1.cell t (by omega)
  obtain ⟨ct, hct⟩ : ∃ ct, ct = C t := ⟨_, rfl⟩
  rw [← hct] at k5 HPO
  clear hct
  have y0 : (0 : Int) ≤ (t : Int) := by omega
  have y1 : (t : Int) < (N : Int) := by omega
  have y2 : (t : Int) < (N : Int) + 1 := by omega
  have hl4 := hc4.size
  by_cases hless : P + V < ct
  · have dl : decide (P + V < ct) = true := decide_eq_true hless
    obtain ⟨t0, t1, t2⟩ := hc4.tok t ht
    have fz := hc4.2.1.free
    have fc := hc4.1.free t (by omega)
    have ne1 : w0.heap.size ≠ w0.heap.size + 2 := by omega
    have ne2 : w.heap.size ≠ w0.heap.size := by omega
    have HZ : Hid (∀ w', w'.heap = ((((w4.setCell ⟨w0.heap.size, t, none⟩ (.int .i64 (P + V))).setCell ⟨w0.heap.size + 2, t * 3, none⟩ (.int .i64 x)).setCell ⟨w0.heap.size + 2, t * 3 + 1, none⟩ (.int .i64 y)).setCell ⟨w0.heap.size + 2, t * 3 + 2, none⟩ (.int .i64 q)).heap → Below w0.heap.size w0 w' → OfferPost w0 N C F t (x, y, q) w') := fun w' e hB => (HPO.out w').mpr (.inl ⟨hless, ((hc4.setC t (by omega) (P + V)).setT t ht x y q).same e hB⟩)
    have HSP : Hid (∀ w', w'.heap = ((((w4.setCell ⟨w0.heap.size, t, none⟩ (.int .i64 (P + V))).setCell ⟨w0.heap.size + 2, t * 3, none⟩ (.int .i64 x)).setCell ⟨w0.heap.size + 2, t * 3 + 1, none⟩ (.int .i64 y)).setCell ⟨w0.heap.size + 2, t * 3 + 2, none⟩ (.int .i64 q)).heap → Spared w0 w w') := fun w' e k hk n1 n2 => by
      rw [e]
      exact (((Below.heap_setCell _ _ _ _ n2).trans (Below.heap_setCell _ _ _ _ n2)).trans (Below.heap_setCell _ _ _ _ n2)).trans ((Below.heap_setCell _ _ _ _ n1).trans (HK4.out k hk))
    have HBE : Hid (Below w0.heap.size w0 ((((w4.setCell ⟨w0.heap.size, t, none⟩ (.int .i64 (P + V))).setCell ⟨w0.heap.size + 2, t * 3, none⟩ (.int .i64 x)).setCell ⟨w0.heap.size + 2, t * 3 + 1, none⟩ (.int .i64 y)).setCell ⟨w0.heap.size + 2, t * 3 + 2, none⟩ (.int .i64 q)).drew) := (three_b hc4.2.2.2.2 t (P + V) x y q).drew
    generalize F t = old at t0 t1 t2
    clear hc4 hb4
    go_wp2_with fail
    go_region
    go_wp2_with fail
    go_end0
    exact ⟨rfl, HZ.out _ rfl HBE.out, HSP.out _ rfl⟩
  · have dl : decide (P + V < ct) = false := decide_eq_false hless
    have HZ : Hid (OfferPost w0 N C F t (x, y, q) w4) := (HPO.out w4).mpr (.inr ⟨by omega, hc4⟩)
    clear hc4 hb4
    go_wp2_with fail
    go_end0
    exact ⟨rfl, HZ.out, fun k hk _ _ => HK4.out k hk⟩

end Go.Proofs.Ytihcapfdpgaeiaa
