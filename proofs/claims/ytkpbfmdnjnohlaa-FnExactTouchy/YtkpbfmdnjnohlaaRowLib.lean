/-
  Slices of integers that came in. Nothing here speaks of the program.
-/
import Derived.Test.YtkpbfmdnjnohlaaRows
import Derived.WalkKit
import Derived.Below
import Derived.OpenShut
import Derived.Lib.SmallJoins
namespace Go.Proofs.Ytkpbfmdnjnohlaa
open Go.RowKit Go.Joins

/-- A slice of integers that came in: it is nil; or it leads to a row of 'cap' cells, the numbers zs. -/
def IsRow (k : IntKind) (w : World) (a : Option Addr) (len cap : Nat) (zs : List Int) : Prop :=
  (a = none ∧ len = 0 ∧ cap = 0 ∧ zs = []) ∨
  ∃ x, a = some x ∧ len ≤ cap ∧ cap ≤ maxLen ∧ zs.length = cap ∧ (∀ i, i < zs.length → w.cell? (x.add i) = some (.int k (zs.getD i 0))) ∧ ∀ n ∈ zs, (Lit.int k n).wf = true

/-- The bytes of a draw lie below block 'base'. -/
def CodeAt (w : World) (base : Nat) (a : Option Addr) (len : Nat) : Prop :=
  len = 0 ∨ ∃ bc off, a = some ⟨bc, off, none⟩ ∧ bc < base ∧ ∀ j, j < len → ∃ x : Int, w.cell? ⟨bc, off + j, none⟩ = some (.int .u8 x) ∧ 0 ≤ x ∧ x ≤ 255

theorem CodeAt.below {w w' : World} {base : Nat} {a : Option Addr} {len : Nat} (h : CodeAt w base a len) (hb : Below base w w') : CodeAt w' base a len := by
  rcases h with h | ⟨bc, off, ha, hlt, hc⟩
  · exact .inl h
  · refine .inr ⟨bc, off, ha, hlt, fun j hj => ?_⟩
    obtain ⟨x, h1, h2⟩ := hc j hj
    exact ⟨x, (hb.cell (p := ⟨bc, off + j, none⟩) hlt).trans h1, h2⟩

theorem codeAt_of_row {w : World} {a : Option Addr} {len cap : Nat} {zs : List Int} (h : IsRow .u8 w a len cap zs) : CodeAt w w.heap.size a len ∧ len ≤ cap ∧ cap ≤ maxLen := by
  rcases h with ⟨_, rfl, rfl, _⟩ | ⟨x, rfl, hl, hm, hz, hc, hw⟩
  · exact ⟨.inl rfl, Nat.le_refl _, Nat.zero_le _⟩
  · refine ⟨?_, hl, hm⟩
    rcases Nat.eq_zero_or_pos len with h0 | h0
    · exact .inl h0
    · right
      obtain ⟨b, off, spot⟩ := x
      have h1 := hc 0 (by omega)
      have hspot : spot = none := by simpa [Addr.add] using World.cell?_spot h1
      subst hspot
      have hadd : ∀ j, (⟨b, off, none⟩ : Addr).add j = ⟨b, off + j, none⟩ := fun j => Addr.add_lit _ _ _
      refine ⟨b, off, rfl, ?_, fun j hj => ?_⟩
      · rw [hadd] at h1
        exact World.block_lt_of_cell? w _ h1
      · have h2 := hc j (by omega)
        rw [hadd] at h2
        have hmem : zs.getD j 0 ∈ zs := by
          rw [List.getD_eq_getElem?_getD, List.getElem?_eq_getElem (by omega)]
          exact List.getElem_mem _
        have h3 := hw _ hmem
        obtain ⟨h4, h5⟩ := bounds_u8 h3
        exact ⟨_, h2, h4, by omega⟩

end Go.Proofs.Ytkpbfmdnjnohlaa
