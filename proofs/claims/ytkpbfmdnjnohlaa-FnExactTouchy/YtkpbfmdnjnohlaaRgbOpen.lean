/-
  A list of colors that a law takes in, opened.
-/
import Derived.Test.YtkpbfmdnjnohlaaRows
import Derived.Test.YtkpbfmdnjnohlaaBase
import Derived.Test.YtkpbfmdnjnohlaaHeadMath
import Derived.Test.YtkpbfmdnjnohlaaRgbLib
import Derived.WalkKit
import Derived.ProofKit
import Derived.OpenShut
import Derived.Below
import Derived.Deep.Slices
import Derived.ChangeSame
import Derived.Lib.SmallJoins
namespace Go.Proofs.Ytkpbfmdnjnohlaa
open Go.ChangeShapes Go.WideShapes Go.ChangeAt Go.RowKit Go.Joins Go.Deep HeadMath

set_option maxRecDepth 100000 in
theorem open_colors {H : Type} {enc : TypeId × Value → H} {W : World} {spare : Nat → Bool} {fuel : Nat} {a : Option Addr} {len cap : Nat} {x : DataW H × List MemPlace} (h : DataW.trod enc Try.prog W 0 spare true fuel 24 [.slice a len cap] = some x) :
    ∃ L : List Rgb3, len = L.length ∧ RgbCame W a len (fun j => L.getD j (0, 0, 0)) ∧ (∀ t ∈ L, (Lit.int .i64 t.1).wf = true ∧ (Lit.int .i64 t.2.1).wf = true ∧ (Lit.int .i64 t.2.2).wf = true) ∧ len ≤ maxLen := by
  have ce : Try.prog.cellsOf 92 = 3 := by kernel_rfl
  have ci : Try.prog.cellsOf 3 = 1 := by kernel_rfl
  rcases open_slice Try.underlying24 h with ⟨hcs, _⟩ | ⟨ad, l, c, m, n, D, Pl, hcs, _, hl, hm, hmm, _, hx⟩
  · simp at hcs
    obtain ⟨rfl, rfl, rfl⟩ := hcs
    exact ⟨[], rfl, .inl rfl, (fun r hr => by cases hr), Nat.zero_le _⟩
  · simp at hcs
    obtain ⟨rfl, rfl, rfl⟩ := hcs
    have hlm : len ≤ m := by rw [hmm]; split <;> omega
    have each : ∀ i, i < len → ∃ q : Rgb3, (W.cell? (ad.add (i * 3)) = some (.int .i64 q.1) ∧ W.cell? (ad.add (i * 3 + 1)) = some (.int .i64 q.2.1) ∧ W.cell? (ad.add (i * 3 + 2)) = some (.int .i64 q.2.2)) ∧ (Lit.int .i64 q.1).wf = true ∧ (Lit.int .i64 q.2.1).wf = true ∧ (Lit.int .i64 q.2.2).wf = true := by
      intro i hi
      obtain ⟨cs', h1, h2⟩ := hx i (by omega)
      rw [ce] at h1
      obtain ⟨_, hlen, hcell⟩ := World.cells?_some h1
      obtain ⟨xs, k, hk, hxy, _, hxl, hf⟩ := DataW.trod_struct Try.underlying92 h2
      match xs, hxl, cs', hlen with
      | [y0, y1, y2], _, [v0, v1, v2], _ =>
        have g0 := hf 0 _ rfl
        have g1 := hf 1 _ rfl
        have g2 := hf 2 _ rfl
        simp [ci] at g0 g1 g2
        obtain ⟨x0, e0, _, f0⟩ := DataW.trod_int Try.underlying3 g0
        obtain ⟨x1, e1, _, f1⟩ := DataW.trod_int Try.underlying3 g1
        obtain ⟨x2, e2, _, f2⟩ := DataW.trod_int Try.underlying3 g2
        simp at e0 e1 e2
        have k0 := hcell 0 (by omega)
        have k1 := hcell 1 (by omega)
        have k2 := hcell 2 (by omega)
        rw [add_add] at k0 k1 k2
        refine ⟨(x0, x1, x2), ⟨?_, ?_, ?_⟩, f0, f1, f2⟩
        · simpa [e0] using k0
        · simpa [e1] using k1
        · simpa [e2] using k2
    obtain ⟨q, hq⟩ := choose_lt each
    have hg : ∀ j, j < len → ((List.range len).map q).getD j (0, 0, 0) = q j := by
      intro j hj
      rw [List.getD_eq_getElem?_getD, List.getElem?_map, List.getElem?_range hj]
      rfl
    refine ⟨(List.range len).map q, by simp, ?_, fun r hr => ?_, by omega⟩
    · rcases Nat.eq_zero_or_pos len with h0 | h0
      · exact .inl h0
      · obtain ⟨b, off, spot⟩ := ad
        have h1 := (hq 0 (by omega)).1.1
        have hspot : spot = none := by simpa [Addr.add] using World.cell?_spot h1
        subst hspot
        have hadd : ∀ j, (⟨b, off, none⟩ : Addr).add j = ⟨b, off + j, none⟩ := fun j => Addr.add_lit _ _ _
        refine .inr ⟨b, off, rfl, ?_, fun j hj => ?_⟩
        · rw [hadd] at h1
          exact World.block_lt_of_cell? W _ h1
        · obtain ⟨⟨k0, k1, k2⟩, _⟩ := hq j hj
          rw [hadd] at k0 k1 k2
          rw [← Nat.add_assoc] at k1 k2
          show W.cell? _ = some (.int .i64 (((List.range len).map q).getD j (0, 0, 0)).1) ∧ W.cell? _ = some (.int .i64 (((List.range len).map q).getD j (0, 0, 0)).2.1) ∧ W.cell? _ = some (.int .i64 (((List.range len).map q).getD j (0, 0, 0)).2.2)
          rw [hg j hj]
          exact ⟨k0, k1, k2⟩
    · obtain ⟨i, hi, rfl⟩ := List.mem_map.mp hr
      exact (hq i (List.mem_range.mp hi)).2

end Go.Proofs.Ytkpbfmdnjnohlaa
