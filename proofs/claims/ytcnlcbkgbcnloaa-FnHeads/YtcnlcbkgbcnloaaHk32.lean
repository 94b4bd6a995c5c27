/-
  The walk of the document's model where it draws a head. (Printed by tools/mkdrawhead.py.)
-/
import Derived.Test.YtcnlcbkgbcnloaaRows
import Derived.Test.YtcnlcbkgbcnloaaHk01
import Derived.Test.YtcnlcbkgbcnloaaHk02
import Derived.Test.YtcnlcbkgbcnloaaHk03
import Derived.Test.YtcnlcbkgbcnloaaHk05
import Derived.Test.YtcnlcbkgbcnloaaHk04
import Derived.Test.YtcnlcbkgbcnloaaHk30
import Derived.Test.YtcnlcbkgbcnloaaHk31
import Derived.Test.YtcnlcbkgbcnloaaHk06
import Derived.WalkKit
import Derived.ProofKit
import Derived.WalkLawsBesides
import Derived.Below
import Derived.Lib.SmallJoins
namespace Go.Proofs.Ytcnlcbkgbcnloaa
open Go.RowKit Go.Joins RastMath

abbrev zeroH : Obj := .cells #[.int .i64 0, .int .i64 0, .int .i64 0, .int .i64 0, .bool false] 25
/-- A head under way: the result's box, and the head's. -/
def HgI (w w' : World) (base b X : Nat) (x y d c : Int) (l : Bool) : Prop :=
  w'.heap[w.heap.size]? = some (.cells #[.int .i64 0, .int .i64 0, .int .i64 0, .int .i64 0, .bool false] 25 (0, 0)) ∧ w'.heap[X]? = some (.cells #[.int .i64 x, .int .i64 y, .int .i64 d, .int .i64 c, .bool l] 25 (0, 0)) ∧ w.heap.size < X ∧ Cur w' base b ∧ b < w.heap.size ∧ w.grownBy w' (some b)
theorem grown_set17 {w w' : World} {row : Option Nat} (h : w.grownBy w' row) (p : Addr) (v : Value) (hp : w.heap.size ≤ p.block) : w.grownBy (w'.setCell p v) row :=
  ⟨h.os, h.tape, h.output, by simpa [World.setCell] using h.size, fun k hk hne => (heap_setCell_other w' p k v (by omega)).trans (h.block k hk hne)⟩
theorem HgI.drawn {w w1 w2 : World} {base b X : Nat} {x y d c : Int} {l : Bool} (h : HgI w w1 base b X x y d c l) (hg : w1.grownBy w2 (some b)) (hC : Cur w2 base b) : HgI w w2 base b X x y d c l := by
  obtain ⟨h1, h2, h3, h4, h5, h6⟩ := h
  exact ⟨(hg.block _ (block_lt h1) (fun e => by have := Option.some.inj e; omega)).trans h1, (hg.block _ (block_lt h2) (fun e => by have := Option.some.inj e; omega)).trans h2, h3, hC, h5, grown_more h6 hg (fun r hr => .inl (Option.some.inj hr).symm)⟩
theorem HgI.alloc {w w1 : World} {base b X : Nat} {x y d c : Int} {l : Bool} (h : HgI w w1 base b X x y d c l) (o : Obj) : HgI w (w1.alloc o) base b X x y d c l := by
  obtain ⟨h1, h2, h3, h4, h5, h6⟩ := h
  exact ⟨(Below.heap_alloc _ _ _ (block_lt h1)).trans h1, (Below.heap_alloc _ _ _ (block_lt h2)).trans h2, h3, h4.alloc _, h5, grown_alloc h6 o⟩
theorem HgI.side {w w1 : World} {base b X : Nat} {x y d c : Int} {l : Bool} (h : HgI w w1 base b X x y d c l) (z : Int) : HgI w (w1.setCell ⟨X, 0, none⟩ (.int .i64 z)) base b X z y d c l := by
  obtain ⟨h1, h2, h3, h4, h5, h6⟩ := h
  have hb := h4.base_le
  refine ⟨?_, ?_, h3, h4.setCell _ _ (by show X ≠ b; omega) (by show base ≤ X; omega), h5, grown_set17 h6 _ _ (by show w.heap.size ≤ X; omega)⟩
  · rw [heap_setCell_other _ _ _ _ (by show ¬ w.heap.size = X; omega)]
    exact h1
  · simp [World.setCell, Array.getElem?_modify, h2]
theorem HgI.depth {w w1 : World} {base b X : Nat} {x y d c : Int} {l : Bool} (h : HgI w w1 base b X x y d c l) (z : Int) : HgI w (w1.setCell ⟨X, 2, none⟩ (.int .i64 z)) base b X x y z c l := by
  obtain ⟨h1, h2, h3, h4, h5, h6⟩ := h
  have hb := h4.base_le
  refine ⟨?_, ?_, h3, h4.setCell _ _ (by show X ≠ b; omega) (by show base ≤ X; omega), h5, grown_set17 h6 _ _ (by show w.heap.size ≤ X; omega)⟩
  · rw [heap_setCell_other _ _ _ _ (by show ¬ w.heap.size = X; omega)]
    exact h1
  · simp [World.setCell, Array.getElem?_modify, h2]
theorem HgI.color {w w1 : World} {base b X : Nat} {x y d c : Int} {l : Bool} (h : HgI w w1 base b X x y d c l) (z : Int) : HgI w (w1.setCell ⟨X, 3, none⟩ (.int .i64 z)) base b X x y d z l := by
  obtain ⟨h1, h2, h3, h4, h5, h6⟩ := h
  have hb := h4.base_le
  refine ⟨?_, ?_, h3, h4.setCell _ _ (by show X ≠ b; omega) (by show base ≤ X; omega), h5, grown_set17 h6 _ _ (by show w.heap.size ≤ X; omega)⟩
  · rw [heap_setCell_other _ _ _ _ (by show ¬ w.heap.size = X; omega)]
    exact h1
  · simp [World.setCell, Array.getElem?_modify, h2]
/-- What is drawn: a head, whatever it is. -/
def HeadDrawn (base b : Nat) (w : World) (e : Ending) (w' : World) : Prop := ∃ (x y d c : Int) (l : Bool), e = .returned (.agg #[.int .i64 x, .int .i64 y, .int .i64 d, .int .i64 c, .bool l]) ∧ Cur w' base b ∧ w.grownBy w' (some b)
theorem HgI.ends {w w1 : World} {base b X : Nat} {x y d c : Int} {l : Bool} (h : HgI w w1 base b X x y d c l) : HeadDrawn base b w (.returned (.agg #[.int .i64 x, .int .i64 y, .int .i64 d, .int .i64 c, .bool l])) (((((w1.setCell ⟨w.heap.size, 0, none⟩ (.int .i64 x)).setCell ⟨w.heap.size, 1, none⟩ (.int .i64 y)).setCell ⟨w.heap.size, 2, none⟩ (.int .i64 d)).setCell ⟨w.heap.size, 3, none⟩ (.int .i64 c)).setCell ⟨w.heap.size, 4, none⟩ (.bool l)) := by
  obtain ⟨h1, h2, h3, h4, h5, h6⟩ := h
  have hb := h4.base_le
  have hne : w.heap.size ≠ b := by omega
  have hle : base ≤ w.heap.size := by omega
  exact ⟨x, y, d, c, l, rfl, ((((h4.setCell _ _ hne hle).setCell _ _ hne hle).setCell _ _ hne hle).setCell _ _ hne hle).setCell _ _ hne hle, grown_set17 (grown_set17 (grown_set17 (grown_set17 (grown_set17 h6 _ _ (Nat.le_refl _)) _ _ (Nat.le_refl _)) _ _ (Nat.le_refl _)) _ _ (Nat.le_refl _)) _ _ (Nat.le_refl _)⟩
set_option maxRecDepth 100000 in
set_option maxHeartbeats 3200000 in
theorem draw_head17 (base b : Nat) (w : World) (hC : Cur w base b) : Calls Try.prog 34 #[.pointer (some ⟨b, 0, none⟩)] w (HeadDrawn base b w) := by
  have hbl := hC.lt
  have HC0 : Hid (Cur (w.alloc zeroH) base b) := hC.alloc _
  have HZ0 : Hid ((w.alloc zeroH).heap[w.heap.size]? = some (.cells #[.int .i64 0, .int .i64 0, .int .i64 0, .int .i64 0, .bool false] 25 (0, 0))) := heap_alloc_new w _
  have HB0 : Hid (w.grownBy (w.alloc zeroH) (some b)) := ⟨rfl, rfl, rfl, by simp, fun k hk _ => Below.heap_alloc _ _ k hk⟩
  clear hC
  go_enter Try.func34, Try.ntmps34
  go_wp2_with fail
  generalize w.alloc zeroH = W0 at HC0 HZ0 HB0 ⊢
  refine (draw_below base b _ _ HC0.out).mono ?_
  rintro e w1 ⟨y1, rfl, i1, hC1, hg1⟩
  have hy1 : 0 ≤ y1 ∧ y1 < 24 := ⟨i1.1, i1.2.1 (by omega)⟩
  clear i1
  have HZ1 : Hid (w1.heap[w.heap.size]? = some (.cells #[.int .i64 0, .int .i64 0, .int .i64 0, .int .i64 0, .bool false] 25 (0, 0))) := (hg1.block _ (block_lt HZ0.out) (fun e => by have := Option.some.inj e; omega)).trans HZ0.out
  have HB1 := hid_of (grown_more HB0.out hg1 (fun r hr => .inl (Option.some.inj hr).symm))
  have HC1 := hid_of hC1
  clear hC1 hg1 HC0 HZ0 HB0
  go_wp2_with fail
  refine (draw_below base b _ _ HC1.out).mono ?_
  rintro e w2 ⟨y2, rfl, i2, hC2, hg2⟩
  have hy2 : 0 ≤ y2 ∧ y2 < 24 := ⟨i2.1, i2.2.1 (by omega)⟩
  clear i2
  have HZ2 : Hid (w2.heap[w.heap.size]? = some (.cells #[.int .i64 0, .int .i64 0, .int .i64 0, .int .i64 0, .bool false] 25 (0, 0))) := (hg2.block _ (block_lt HZ1.out) (fun e => by have := Option.some.inj e; omega)).trans HZ1.out
  have HB2 := hid_of (grown_more HB1.out hg2 (fun r hr => .inl (Option.some.inj hr).symm))
  have HC2 := hid_of hC2
  clear hC2 hg2 HC1 HZ1 HB1
  go_wp2_with fail
  refine (draw_color base b _ HC2.out).mono ?_
  rintro e w3 ⟨cl, rfl, hcl, hC3, hg3⟩
  have HZ3 : Hid (w3.heap[w.heap.size]? = some (.cells #[.int .i64 0, .int .i64 0, .int .i64 0, .int .i64 0, .bool false] 25 (0, 0))) := (hg3.block _ (block_lt HZ2.out) (fun e => by have := Option.some.inj e; omega)).trans HZ2.out
  have HB3 := hid_of (grown_more HB2.out hg3 (fun r hr => .inl (Option.some.inj hr).symm))
  have HC3 := hid_of hC3
  clear hC3 hg3 HC2 HZ2 HB2
  go_wp2_with fail
  refine (draw_once base b _ _ HC3.out).mono ?_
  rintro e w4 ⟨l, rfl, hC4, hg4⟩
  have HZ4 : Hid (w4.heap[w.heap.size]? = some (.cells #[.int .i64 0, .int .i64 0, .int .i64 0, .int .i64 0, .bool false] 25 (0, 0))) := (hg4.block _ (block_lt HZ3.out) (fun e => by have := Option.some.inj e; omega)).trans HZ3.out
  have HB4 := hid_of (grown_more HB3.out hg4 (fun r hr => .inl (Option.some.inj hr).symm))
  have HC4 := hid_of hC4
  clear hC4 hg4 HC3 HZ3 HB3
  have HI0 : Hid (HgI w (w4.alloc (.cells #[.int .i64 (1 + y1), .int .i64 (1 + y2), .int .i64 0, .int .i64 cl, .bool l] 25)) base b w4.heap.size (1 + y1) (1 + y2) 0 cl l) := by
    have q := block_lt HZ4.out
    exact ⟨(Below.heap_alloc _ _ _ q).trans HZ4.out, heap_alloc_new w4 _, q, HC4.out.alloc _, hbl, grown_alloc HB4.out _⟩
  clear HC4 HZ4 HB4
  go_wp2_with fail
  generalize w4.alloc (.cells #[.int .i64 (1 + y1), .int .i64 (1 + y2), .int .i64 0, .int .i64 cl, .bool l] 25) = W5 at HI0 ⊢
  generalize w4.heap.size = X at HI0 ⊢
  refine (draw_depthOf base b cl W5 HI0.out.2.2.2.1 hcl).mono ?_
  rintro e w6 ⟨d, rfl, hd, hC6, hg6⟩
  have HI6 := hid_of (HI0.out.drawn hg6 hC6)
  have HI7 := hid_of (HI6.out.depth d)
  obtain ⟨k0, k1, k2, k3, k4⟩ := head_cells HI6.out.2.1
  have lx := block_lt HI6.out.2.1
  have fx : ∀ q, w6.frozen? ⟨X, q, none⟩ = false := fun q => by simp [World.frozen?, HI6.out.2.1]
  clear hC6 hg6 HI0 HI6 hcl hd
  go_wp2_with fail
  generalize w6.setCell ⟨X, 2, none⟩ (.int .i64 d) = W7 at HI7 ⊢
  clear k0 k1 k2 k3 k4 lx fx
  refine (draw_below base b _ _ HI7.out.2.2.2.1).mono ?_
  rintro e w8 ⟨k, rfl, ik, hC8, hg8⟩
  have HI8 := hid_of (HI7.out.drawn hg8 hC8)
  clear hC8 hg8 HI7 ik
  obtain ⟨x, hx⟩ : ∃ x, x = 1 + y1 := ⟨_, rfl⟩
  obtain ⟨y, hy⟩ : ∃ y, y = 1 + y2 := ⟨_, rfl⟩
  rw [← hx, ← hy] at HI8
  clear hx hy hy1 hy2
  by_cases h0 : k = 0
  · subst h0
    have HI9 := hid_of (HI8.out.alloc (.cells #[.int .i64 0, .int .i64 25, .int .i64 (-1), .int .i64 4294967296] 3))
    have lc8 := HI8.out.2.2.2.1.lt
    go_wp2_with fail
    refine (draw_pickInt base b w8.heap.size 4 4 (fun _ => True) _ HI9.out.2.2.2.1 (by omega) (by omega) (by simp) (fun j hj => ?_)).mono ?_
    · match j, hj with
      | 0, _ => exact ⟨0, by simp, trivial⟩
      | 1, _ => exact ⟨25, by simp, trivial⟩
      | 2, _ => exact ⟨-1, by simp, trivial⟩
      | 3, _ => exact ⟨4294967296, by simp, trivial⟩
    rintro e w10 ⟨z, rfl, -, hC10, hg10⟩
    have HIA := hid_of (HI9.out.drawn hg10 hC10)
    have HIB := hid_of (HIA.out.side z)
    obtain ⟨k0, k1, k2, k3, k4⟩ := head_cells HIA.out.2.1
    obtain ⟨z0, z1, z2, z3, z4⟩ := head_cells HIA.out.1
    have lx := block_lt HIA.out.2.1
    have lz := block_lt HIA.out.1
    have fx : ∀ q, w10.frozen? ⟨X, q, none⟩ = false := fun q => by simp [World.frozen?, HIA.out.2.1]
    have fz : ∀ q, w10.frozen? ⟨w.heap.size, q, none⟩ = false := fun q => by simp [World.frozen?, HIA.out.1]
    have hne : ¬ X = w.heap.size := by have := HIA.out.2.2.1; omega
    have hne2 : ¬ w.heap.size = X := by omega
    have HE := hid_of HIB.out.ends
    clear hC10 hg10 HI9 HIA HI8 lc8 HIB
    go_wp2_with fail
    refine bodyPost_ret (v := .agg #[.int .i64 z, .int .i64 y, .int .i64 d, .int .i64 cl, .bool l]) ?_ rfl HE.out
    simp [results, Try.results34, go_sem, *]
  · have e0 : (k == 0) = false := by simp only [beq_eq_false_iff_ne, ne_eq]; exact h0
    clear h0
    by_cases h1 : k = 1
    · subst h1
      have HI9 := hid_of (HI8.out.alloc (.cells #[.int .i64 0, .int .i64 3, .int .i64 16, .int .i64 17, .int .i64 (-1), .int .i64 9223372036854775807] 3))
      have lc8 := HI8.out.2.2.2.1.lt
      go_wp2_with fail
      refine (draw_pickInt base b w8.heap.size 6 6 (fun _ => True) _ HI9.out.2.2.2.1 (by omega) (by omega) (by simp) (fun j hj => ?_)).mono ?_
      · match j, hj with
        | 0, _ => exact ⟨0, by simp, trivial⟩
        | 1, _ => exact ⟨3, by simp, trivial⟩
        | 2, _ => exact ⟨16, by simp, trivial⟩
        | 3, _ => exact ⟨17, by simp, trivial⟩
        | 4, _ => exact ⟨-1, by simp, trivial⟩
        | 5, _ => exact ⟨9223372036854775807, by simp, trivial⟩
      rintro e w10 ⟨z, rfl, -, hC10, hg10⟩
      have HIA := hid_of (HI9.out.drawn hg10 hC10)
      have HIB := hid_of (HIA.out.depth z)
      obtain ⟨k0, k1, k2, k3, k4⟩ := head_cells HIA.out.2.1
      obtain ⟨z0, z1, z2, z3, z4⟩ := head_cells HIA.out.1
      have lx := block_lt HIA.out.2.1
      have lz := block_lt HIA.out.1
      have fx : ∀ q, w10.frozen? ⟨X, q, none⟩ = false := fun q => by simp [World.frozen?, HIA.out.2.1]
      have fz : ∀ q, w10.frozen? ⟨w.heap.size, q, none⟩ = false := fun q => by simp [World.frozen?, HIA.out.1]
      have hne : ¬ X = w.heap.size := by have := HIA.out.2.2.1; omega
      have hne2 : ¬ w.heap.size = X := by omega
      have HE := hid_of HIB.out.ends
      clear hC10 hg10 HI9 HIA HI8 lc8 HIB
      go_wp2_with fail
      refine bodyPost_ret (v := .agg #[.int .i64 x, .int .i64 y, .int .i64 z, .int .i64 cl, .bool l]) ?_ rfl HE.out
      simp [results, Try.results34, go_sem, *]
    · have e1 : (k == 1) = false := by simp only [beq_eq_false_iff_ne, ne_eq]; exact h1
      clear h1
      by_cases h2 : k = 2
      · subst h2
        have HI9 := hid_of (HI8.out.alloc (.cells #[.int .i64 1, .int .i64 5, .int .i64 7, .int .i64 (-1)] 3))
        have lc8 := HI8.out.2.2.2.1.lt
        go_wp2_with fail
        refine (draw_pickInt base b w8.heap.size 4 4 (fun _ => True) _ HI9.out.2.2.2.1 (by omega) (by omega) (by simp) (fun j hj => ?_)).mono ?_
        · match j, hj with
          | 0, _ => exact ⟨1, by simp, trivial⟩
          | 1, _ => exact ⟨5, by simp, trivial⟩
          | 2, _ => exact ⟨7, by simp, trivial⟩
          | 3, _ => exact ⟨-1, by simp, trivial⟩
        rintro e w10 ⟨z, rfl, -, hC10, hg10⟩
        have HIA := hid_of (HI9.out.drawn hg10 hC10)
        have HIB := hid_of (HIA.out.color z)
        obtain ⟨k0, k1, k2, k3, k4⟩ := head_cells HIA.out.2.1
        obtain ⟨z0, z1, z2, z3, z4⟩ := head_cells HIA.out.1
        have lx := block_lt HIA.out.2.1
        have lz := block_lt HIA.out.1
        have fx : ∀ q, w10.frozen? ⟨X, q, none⟩ = false := fun q => by simp [World.frozen?, HIA.out.2.1]
        have fz : ∀ q, w10.frozen? ⟨w.heap.size, q, none⟩ = false := fun q => by simp [World.frozen?, HIA.out.1]
        have hne : ¬ X = w.heap.size := by have := HIA.out.2.2.1; omega
        have hne2 : ¬ w.heap.size = X := by omega
        have HE := hid_of HIB.out.ends
        clear hC10 hg10 HI9 HIA HI8 lc8 HIB
        go_wp2_with fail
        refine bodyPost_ret (v := .agg #[.int .i64 x, .int .i64 y, .int .i64 d, .int .i64 z, .bool l]) ?_ rfl HE.out
        simp [results, Try.results34, go_sem, *]
      · have e2 : (k == 2) = false := by simp only [beq_eq_false_iff_ne, ne_eq]; exact h2
        clear h2
        obtain ⟨k0, k1, k2, k3, k4⟩ := head_cells HI8.out.2.1
        obtain ⟨z0, z1, z2, z3, z4⟩ := head_cells HI8.out.1
        have lx := block_lt HI8.out.2.1
        have lz := block_lt HI8.out.1
        have fz : ∀ q, w8.frozen? ⟨w.heap.size, q, none⟩ = false := fun q => by simp [World.frozen?, HI8.out.1]
        have HE := hid_of HI8.out.ends
        clear HI8
        go_wp2_with fail
        refine bodyPost_ret (v := .agg #[.int .i64 x, .int .i64 y, .int .i64 d, .int .i64 cl, .bool l]) ?_ rfl HE.out
        simp [results, Try.results34, go_sem, *]
end Go.Proofs.Ytcnlcbkgbcnloaa
