/-
  A list of Runs that a law takes in, opened.
-/
import Derived.Test.YtjdfmbdcfdafjaaRows
import Derived.Test.YtjdfmbdcfdafjaaBase
import Derived.Test.YtjdfmbdcfdafjaaIntsLib
import Derived.Test.YtjdfmbdcfdafjaaRunWalks
import Derived.WalkKit
import Derived.ProofKit
import Derived.OpenShut
import Derived.Below
import Derived.Deep.SlicePairs
import Derived.Lib.SmallJoins
namespace Go.Proofs.Ytjdfmbdcfdafjaa
open Go.ChangeShapes Go.WideShapes Go.ChangeAt Go.RowKit Go.Joins Go.Deep

theorem open_runs {H : Type} {enc : TypeId × Value → H} {W : World} {spare : Nat → Bool} {fuel : Nat} {a : Option Addr} {len cap : Nat} {x : DataW H × List MemPlace} (h : DataW.trod enc Try.prog W 0 spare true fuel 40 [.slice a len cap] = some x) :
    ∃ L : List (Int × Int), len = L.length ∧ DCame W a len (fun j => L.getD j (0, 0)) ∧ (∀ r ∈ L, (Lit.int .i64 r.1).wf = true ∧ (Lit.int .i64 r.2).wf = true) ∧ len ≤ maxLen := by
  rcases open_slice_pairs Try.underlying40 Try.underlying56 (by kernel_rfl) rfl rfl (by kernel_rfl) (by kernel_rfl) h with ⟨hcs, _⟩ | ⟨ad, l, c, m, n, V0, V1, D0, D1, P0, P1, hcs, _, hl, hm, hmm, _, hx⟩
  · simp at hcs
    obtain ⟨rfl, rfl, rfl⟩ := hcs
    exact ⟨[], rfl, .inl rfl, (fun r hr => by cases hr), Nat.zero_le _⟩
  · simp at hcs
    obtain ⟨rfl, rfl, rfl⟩ := hcs
    have hlm : len ≤ m := by rw [hmm]; split <;> omega
    have each : ∀ i, i < len → V0 i = .int .i64 (intOf (V0 i)) ∧ V1 i = .int .i64 (intOf (V1 i)) ∧ (Lit.int .i64 (intOf (V0 i))).wf = true ∧ (Lit.int .i64 (intOf (V1 i))).wf = true := by
      intro i hi
      obtain ⟨_, _, g0, g1⟩ := hx i (by omega)
      obtain ⟨x0, e0, _, f0⟩ := DataW.trod_int Try.underlying3 g0
      obtain ⟨x1, e1, _, f1⟩ := DataW.trod_int Try.underlying3 g1
      simp at e0 e1
      rw [e0, e1]
      exact ⟨rfl, rfl, f0, f1⟩
    have hg : ∀ j, j < len → ((List.range len).map fun i => (intOf (V0 i), intOf (V1 i))).getD j (0, 0) = (intOf (V0 j), intOf (V1 j)) := by
      intro j hj
      rw [List.getD_eq_getElem?_getD, List.getElem?_map, List.getElem?_range hj]
      rfl
    refine ⟨(List.range len).map fun i => (intOf (V0 i), intOf (V1 i)), by simp, ?_, fun r hr => ?_, by omega⟩
    · rcases Nat.eq_zero_or_pos len with h0 | h0
      · exact .inl h0
      · obtain ⟨b, off, spot⟩ := ad
        have h1 := (hx 0 (by omega)).1
        have hspot : spot = none := by simpa [Addr.add] using World.cell?_spot h1
        subst hspot
        have hadd : ∀ j, (⟨b, off, none⟩ : Addr).add j = ⟨b, off + j, none⟩ := fun j => Addr.add_lit _ _ _
        refine .inr ⟨b, off, rfl, ?_, fun j hj => ?_⟩
        · rw [hadd] at h1
          exact World.block_lt_of_cell? W _ h1
        · obtain ⟨k0, k1, _, _⟩ := hx j (by omega)
          obtain ⟨e0, e1, _, _⟩ := each j hj
          rw [hadd] at k0 k1
          rw [← Nat.add_assoc] at k1
          show W.cell? _ = some (.int .i64 (((List.range len).map fun i => (intOf (V0 i), intOf (V1 i))).getD j (0, 0)).1) ∧ W.cell? _ = some (.int .i64 (((List.range len).map fun i => (intOf (V0 i), intOf (V1 i))).getD j (0, 0)).2)
          rw [hg j hj, k0, k1]
          exact ⟨congrArg some e0, congrArg some e1⟩
    · obtain ⟨i, hi, rfl⟩ := List.mem_map.mp hr
      have := each i (List.mem_range.mp hi)
      exact ⟨this.2.2.1, this.2.2.2⟩

end Go.Proofs.Ytjdfmbdcfdafjaa
