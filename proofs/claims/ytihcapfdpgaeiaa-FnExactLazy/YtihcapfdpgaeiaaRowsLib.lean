/-
  Lists of numbers that a call made itself, one for each three bytes, and one besides: no two lie in one block.
-/
import Derived.Test.YtihcapfdpgaeiaaRows
import Derived.Test.YtihcapfdpgaeiaaBase
import Derived.Test.YtihcapfdpgaeiaaKeyLib
import Derived.Laws.AppendOwn
import Derived.Laws.OwnMore
import Derived.Deep.AppendLies
import Derived.WalkKit
import Derived.Below
namespace Go.Proofs.Ytihcapfdpgaeiaa
open Go.RowKit

/-- The slice v is the call's own and holds the numbers zs. -/
def IR (w : World) (base : Nat) (v : Value) (zs : List Int) : Prop := w.ownsRow base 3 1 v zs.length (zs.map (Value.int .i64))
section
variable {w w' : World} {base : Nat} {v : Value} {zs : List Int}
theorem IR.nil (w : World) (base : Nat) : IR w base (.slice none 0 0) [] := World.ownsRow_nil _ _ _ _
theorem IR.kept {row : Option Nat} (h : IR w base v zs) (hg : w.grownBy w' row) (hne : v.ownBlock = none ∨ v.ownBlock ≠ row) : IR w' base v zs := World.ownsRow.kept h hg hne
theorem IR.alloc (h : IR w base v zs) (o : Obj) : IR (w.alloc o) base v zs := World.ownsRow.alloc h o
theorem IR.lt (h : IR w base v zs) {k : Nat} (e : v.ownBlock = some k) : base ≤ k ∧ k < w.heap.size := World.ownsRow.lt h k e
theorem IR.form (h : IR w base v zs) : ∃ a c, v = .slice a zs.length c := by
  rcases h.2 with ⟨rfl, h0⟩ | ⟨g, cap, cur, rfl, _⟩
  · exact ⟨none, 0, by rw [h0]⟩
  · exact ⟨_, cap, rfl⟩
theorem IR.room (h : IR w base v zs) {a : Option Addr} {n c : Nat} (e : v = .slice a n c) : zs.length ≤ c := by
  rcases h.2 with ⟨rfl, h0⟩ | ⟨g, cap, cur, rfl, _, _, hn, _⟩
  · omega
  · cases e
    exact hn
theorem IR.cells (h : IR w base v zs) (hn : 0 < zs.length) : ∃ g cap, v = .slice (some ⟨g, 0, none⟩) zs.length cap ∧ zs.length ≤ cap ∧ g < w.heap.size ∧ ∀ j, j < zs.length → w.cell? ⟨g, j, none⟩ = some (.int .i64 (zs.getD j 0)) := by
  have h' : w.ownsRow base 3 1 v zs.length (zs.map (Value.int .i64)) := h
  obtain ⟨g, cap, rfl, hb, hg⟩ := World.ownsRow.form h' hn
  refine ⟨g, cap, rfl, h.room rfl, hg, fun j hj => ?_⟩
  rw [World.ownsRow.cellAt h' j (by omega), List.getElem?_map, List.getElem?_eq_getElem hj, List.getD_eq_getElem?_getD, List.getElem?_eq_getElem hj]
  rfl
end

/-- The lists by three bytes, and the one besides. -/
def Rws (w : World) (base : Nat) (P : Nat → Nat → Nat → List Int) (LA : List Int) (G : Nat → Nat → Nat → Value) (va : Value) : Prop :=
  (∀ x y z, IR w base (G x y z) (P x y z)) ∧ IR w base va LA ∧ (∀ x y z x' y' z', ¬ (x = x' ∧ y = y' ∧ z = z') → (G x y z).ownBlock = none ∨ (G x y z).ownBlock ≠ (G x' y' z').ownBlock) ∧ ∀ x y z, (G x y z).ownBlock = none ∨ (G x y z).ownBlock ≠ va.ownBlock
section
variable {w w' : World} {base : Nat} {P : Nat → Nat → Nat → List Int} {LA : List Int} {G : Nat → Nat → Nat → Value} {va : Value}
theorem Rws.start (w : World) (base : Nat) : Rws w base (fun _ _ _ => []) [] (fun _ _ _ => .slice none 0 0) (.slice none 0 0) :=
  ⟨fun _ _ _ => IR.nil _ _, IR.nil _ _, fun _ _ _ _ _ _ _ => .inl rfl, fun _ _ _ => .inl rfl⟩
/-- What turns a block below them leaves them. -/
theorem Rws.grown {row : Option Nat} (h : Rws w base P LA G va) (hg : w.grownBy w' row) (hr : ∀ k, row = some k → k < base ∨ w.heap.size ≤ k) : Rws w' base P LA G va := by
  have key : ∀ {v zs}, IR w base v zs → v.ownBlock = none ∨ v.ownBlock ≠ row := fun {v zs} hv => by
    cases e : v.ownBlock with
    | none => exact .inl rfl
    | some k =>
      refine .inr (fun e1 => ?_)
      have h1 := hv.lt e
      have h2 := hr k e1.symm
      omega
  exact ⟨fun x y z => (h.1 x y z).kept hg (key (h.1 x y z)), h.2.1.kept hg (key h.2.1), h.2.2.1, h.2.2.2⟩
theorem Rws.called (h : Rws w base P LA G va) (hb : Below w.heap.size w w') : Rws w' base P LA G va :=
  h.grown (row := none) ⟨hb.os, hb.tape, hb.output, hb.size, fun k hk _ => hb.block k hk⟩ (fun k e => by cases e)
/-- The one besides, gone on with. -/
theorem Rws.ahead {va' : Value} {LA' : List Int} {o : Obj} (h : Rws w base P LA G va) (hg : (w.alloc o).grownBy w' va.ownBlock) (hv : IR w' base va' LA') (hl : va'.ownBlock = va.ownBlock ∨ ∃ g, va'.ownBlock = some g ∧ w.heap.size ≤ g) : Rws w' base P LA' G va' := by
  refine ⟨fun x y z => ((h.1 x y z).alloc o).kept hg (h.2.2.2 x y z), hv, h.2.2.1, fun x y z => ?_⟩
  rcases hl with e | ⟨g, e, hgl⟩
  · rw [e]
    exact h.2.2.2 x y z
  · cases q : (G x y z).ownBlock with
    | none => exact .inl rfl
    | some k =>
      refine .inr (fun e1 => ?_)
      rw [e] at e1
      have := ((h.1 x y z).lt q).2
      cases e1
      omega
/-- One by three bytes, gone on with. -/
theorem Rws.put {a b c : Nat} {v' : Value} {P' : Nat → Nat → Nat → List Int} {o : Obj} (h : Rws w base P LA G va) (hg : (w.alloc o).grownBy w' (G a b c).ownBlock) (hv : IR w' base v' (P' a b c)) (hP : ∀ x y z, ¬ (x = a ∧ y = b ∧ z = c) → P' x y z = P x y z) (hl : v'.ownBlock = (G a b c).ownBlock ∨ ∃ g, v'.ownBlock = some g ∧ w.heap.size ≤ g) :
    Rws w' base P' LA (putG G a b c v') va := by
  have apart : ∀ {v zs}, IR w base v zs → (v.ownBlock = none ∨ v.ownBlock ≠ (G a b c).ownBlock) → v.ownBlock = none ∨ v.ownBlock ≠ v'.ownBlock := fun {v zs} hvz hne => by
    rcases hl with e | ⟨g, e, hgl⟩
    · rw [e]
      exact hne
    · cases q : v.ownBlock with
      | none => exact .inl rfl
      | some k =>
        refine .inr (fun e1 => ?_)
        rw [e] at e1
        have := (hvz.lt q).2
        cases e1
        omega
  have flip : ∀ {u u' : Option Nat}, (u = none ∨ u ≠ u') → (u' = none ∨ u' ≠ u) := fun {u u'} k => by
    cases u' with
    | none => exact .inl rfl
    | some q =>
      refine .inr (fun e => ?_)
      rcases k with k | k
      · rw [k] at e
        cases e
      · exact k e.symm
  refine ⟨fun x y z => ?_, (h.2.1.alloc o).kept hg (flip (h.2.2.2 a b c)), fun x y z x' y' z' hne => ?_, fun x y z => ?_⟩
  · by_cases q : x = a ∧ y = b ∧ z = c
    · rw [q.1, q.2.1, q.2.2, putG_same]
      exact hv
    · rw [hP x y z q, putG_other G v' q]
      exact ((h.1 x y z).alloc o).kept hg (h.2.2.1 x y z a b c q)
  · by_cases q : x = a ∧ y = b ∧ z = c
    · have q' : ¬ (x' = a ∧ y' = b ∧ z' = c) := fun k => hne ⟨q.1.trans k.1.symm, q.2.1.trans k.2.1.symm, q.2.2.trans k.2.2.symm⟩
      rw [putG_other G v' q', q.1, q.2.1, q.2.2, putG_same]
      exact flip (apart (h.1 x' y' z') (h.2.2.1 x' y' z' a b c q'))
    · rw [putG_other G v' q]
      by_cases q' : x' = a ∧ y' = b ∧ z' = c
      · rw [q'.1, q'.2.1, q'.2.2, putG_same]
        exact apart (h.1 x y z) (h.2.2.1 x y z a b c q)
      · rw [putG_other G v' q']
        exact h.2.2.1 x y z x' y' z' hne
  · by_cases q : x = a ∧ y = b ∧ z = c
    · rw [q.1, q.2.1, q.2.2, putG_same]
      exact flip (apart h.2.1 (flip (h.2.2.2 a b c)))
    · rw [putG_other G v' q]
      exact h.2.2.2 x y z
end

end Go.Proofs.Ytihcapfdpgaeiaa
