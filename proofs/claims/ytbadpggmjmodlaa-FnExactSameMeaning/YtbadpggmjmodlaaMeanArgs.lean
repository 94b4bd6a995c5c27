/-
  What a picture means, that a law takes in, opened; and the walks of the laws' helpers over it.
-/
import Derived.Test.YtbadpggmjmodlaaRows
import Derived.Test.YtbadpggmjmodlaaBase
import Derived.Test.YtbadpggmjmodlaaIntsWalks
import Derived.Test.YtbadpggmjmodlaaRasterArgs
import Derived.Test.YtbadpggmjmodlaaChkArgs
import Derived.Test.YtbadpggmjmodlaaChkSize
import Derived.Test.YtbadpggmjmodlaaChkOpen
import Derived.Test.YtbadpggmjmodlaaChkWalks
import Derived.Test.YtbadpggmjmodlaaOpenLists
import Derived.Test.YtbadpggmjmodlaaMeanMem
import Derived.WalkKit
import Derived.ProofKit
import Derived.WalkLawsBesides
import Derived.OpenShut
import Derived.Below
import Derived.Lib.SmallJoins
namespace Go.Proofs.Ytbadpggmjmodlaa
open Go.ChangeShapes Go.WideShapes Go.ChangeAt Go.RowKit Go.Joins Go.Deep Go.WideElems ChunkMath

theorem array4 {α : Type} {cs : Array α} (h : cs.size = 4) : ∃ c0 c1 c2 c3, cs = #[c0, c1, c2, c3] := by
  obtain ⟨l⟩ := cs
  match l, h with
  | [c0, c1, c2, c3], _ => exact ⟨c0, c1, c2, c3, rfl⟩
set_option maxRecDepth 100000 in
set_option maxHeartbeats 1600000 in
theorem open_mean {H : Type} {enc : TypeId × Value → H} {W : World} {r : Reach} {b0 : Nat} {v : Value} {d : DataW H} {p : List MemPlace} (hv : Value.okWide Try.prog W r b0 50 v) (h : DataW.Trod enc Try.prog W 0 (fun _ => true) true 50 v d p) :
    ∃ (M : Mea) (Q : MeaA), v = meanV M Q ∧ MeanIn W M Q ∧ M.pn ≤ maxLen ∧ M.kn ≤ maxLen ∧ (∀ i, i < M.kn → (M.K i).1.size ≤ maxLen ∧ (M.K i).2.size ≤ maxLen) := by
  have cI : Try.prog.cellsOf 3 = 1 := by kernel_rfl
  have cC : Try.prog.cellsOf 25 = 1 := by kernel_rfl
  have cK : Try.prog.cellsOf 28 = 1 := by kernel_rfl
  obtain ⟨cs, rfl, hsz⟩ := okWide_struct Try.underlying50 hv
  obtain ⟨u0, u1, u2, u3, rfl⟩ := array4 (hsz.trans (by kernel_rfl))
  obtain ⟨fuel, hf⟩ := h
  obtain ⟨xs, n, _, _, _, hlen, hg⟩ := DataW.trod_struct Try.underlying50 hf
  match xs, hlen with
  | [y0, y1, y2, y3], _ =>
    have g0 := hg 0 _ rfl
    have g1 := hg 1 _ rfl
    have g2 := hg 2 _ rfl
    have g3 := hg 3 _ rfl
    simp [Value.cells, cI, cC, cK] at g0 g1 g2 g3
    clear hg hf hv
    obtain ⟨x0, e0, _, _⟩ := DataW.trod_int Try.underlying3 g0
    obtain ⟨x1, e1, _, _⟩ := DataW.trod_int Try.underlying3 g1
    simp at e0 e1
    obtain ⟨pa, pn, pc, rfl⟩ := slice_of_trod Try.underlying25 g2
    obtain ⟨ka, kn, kc, rfl⟩ := slice_of_trod Try.underlying28 g3
    subst e0 e1
    obtain ⟨M, e', hK, hKz, hKm⟩ := open_chunks g3
    obtain ⟨zs, hS⟩ := row_of_trod g2
    obtain ⟨hS1, hS2, _⟩ := came_of_row hS
    refine ⟨⟨x0, x1, pn, _, kn, _⟩, ⟨pa, pc, ka, kc⟩, rfl, ⟨hS1, hK⟩, hS2, hKm, fun i hi => ?_⟩
    have hi' : i < kn := hi
    refine hKz _ ?_
    show M.getD i _ ∈ M
    rw [List.getD_eq_getElem?_getD, List.getElem?_eq_getElem (by omega)]
    exact List.getElem_mem _
/-- What the measure answers. -/
def SzMeanPost (w : World) (m : Mea) (e : Ending) (w' : World) : Prop := ∃ z : Int, e = .returned (.int .i64 z) ∧ (z < 0 ∨ (0 ≤ z ∧ z ≤ 1048576 ∧ MeanSz m)) ∧ Below w.heap.size w w'
set_option maxRecDepth 100000 in
set_option maxHeartbeats 1600000 in
theorem szMean_any (m : Mea) (q : MeaA) (z0 : Int) (w : World) (h0 : 0 ≤ z0) (h1 : z0 ≤ 1048576) (hP : MeanIn w m q) (hs : m.pn ≤ maxLen) (hk : m.kn ≤ maxLen) (hm : ∀ i, i < m.kn → (m.K i).1.size ≤ maxLen ∧ (m.K i).2.size ≤ maxLen) :
    Calls Try.prog 17 #[meanV m q, .int .i64 z0] w (SzMeanPost w m) := by
  obtain ⟨mw, mh, pn, P, kn, K⟩ := m
  obtain ⟨pa, pc, ka, kc⟩ := q
  have HK : Hid (KCame w ka kn K) := hid_of hP.k
  have HM := hid_of hm
  have hs' : pn ≤ maxLen := hs
  have hk' : kn ≤ maxLen := hk
  have e1 := fun W => szIntS_any pa pn pc z0 W h0 h1 hs'
  have HB0 : Hid (Below w.heap.size w (w.alloc (.cells #[.int .i64 mw, .int .i64 mh, .slice pa pn pc, .slice ka kn kc] 50))) := bstart _ _
  clear hP hm hs hk
  show Calls Try.prog 17 #[.agg #[.int .i64 mw, .int .i64 mh, .slice pa pn pc, .slice ka kn kc], .int .i64 z0] w _
  go_enter Try.func17, Try.ntmps17
  go_wp2_with fail
  refine (e1 _).mono ?_
  rintro e w1 ⟨rfl, rfl⟩
  clear e1
  by_cases h2 : (pn : Int) ≤ z0
  case neg =>
    rw [if_neg h2]
    clear h2 h0 h1
    go_wp2_with fail
    go_ret
    exact ⟨-1, rfl, .inl (by omega), HB0.out⟩
  rw [if_pos h2]
  have d2 : decide (z0 - (pn : Int) < 0) = false := decide_eq_false (by omega)
  go_wp2_with fail
  refine (szChunkS_at (z0 - (pn : Int)) (by omega) (by omega) ka kn kc K _ (HK.out.called HB0.out) (by unfold maxLen at hk'; omega) (fun i hi => by have := HM.out i hi; unfold maxLen at this; exact ⟨by omega, by omega⟩)).mono ?_
  rintro e w3 ⟨z, rfl, hz, hB⟩
  have HB3 := hid_of (bnext HB0.out hB)
  rcases hz with rfl | ⟨z1, z2, z3, z4⟩
  · clear hB
    go_wp2_with fail
    go_ret
    exact ⟨-1, rfl, .inl (by omega), HB3.out⟩
  · have dz : decide (z < 0) = false := decide_eq_false (by omega)
    have HZ := hid_of z4
    clear hB z4
    go_wp2_with fail
    go_ret
    refine ⟨z, rfl, .inr ⟨z1, z2, ⟨?_, z3, HZ.out⟩⟩, HB3.out⟩
    show pn ≤ 1048576
    omega
end Go.Proofs.Ytbadpggmjmodlaa
