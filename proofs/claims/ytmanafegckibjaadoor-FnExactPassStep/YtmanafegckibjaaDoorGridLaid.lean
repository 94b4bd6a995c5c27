/-
  What a row that lists the program's table of grids says of its cells.
-/
import Derived.Test.YtmanafegckibjaaDoorRows
import Derived.Test.YtmanafegckibjaaDoorBase
import Derived.Test.YtmanafegckibjaaDoorPassMath
import Derived.Test.YtmanafegckibjaaDoorGridVar
import Derived.WalkKit
import Derived.ProofKit
import Derived.OpenShut
import Derived.ChangeOld
import Derived.ChangeVars
import Derived.LaidLaws
import Derived.ChangeArms
import Derived.Lib.LaidTab
import Derived.Lib.SmallJoins
namespace Go.Proofs.YtmanafegckibjaaDoor
open Go.ChangeShapes Go.WideShapes Go.ChangeAt Go.RowKit Go.Joins PassMath

theorem gGrid : Tryd.prog.globalNamed "loop.example/g00099/impl.passGrids" = some 0 := by kernel_rfl
theorem gGridType : (Tryd.prog.globals[0]?).map (·.type) = some 62 := by kernel_rfl
theorem cellsGrid : Tryd.prog.cellsOf 61 = 4 := by kernel_rfl
theorem cellsInt14 : Tryd.prog.cellsOf 3 = 1 := by kernel_rfl
/-- A grid as a row lists it. -/
def gridD {H : Type} (a b c d : Int) : DataW H := .agg [.lit (.int .i64 a), .lit (.int .i64 b), .lit (.int .i64 c), .lit (.int .i64 d)]
section
variable {H : Type} {enc : TypeId × Value → H} {w : World} {base : Nat} {sp : Nat → Bool} {held : Bool} {fuel : Nat}
theorem int_cells {cs : List Value} {a : Int} {y : DataW H × List MemPlace} (h : DataW.trod enc Tryd.prog w base sp held fuel 3 cs = some y) (hy : y.1 = .lit (.int .i64 a)) : cs = [.int .i64 a] := by
  obtain ⟨z, hc, hx, _⟩ := DataW.trod_int Tryd.underlying3 h
  rw [hx] at hy
  simp at hy
  rw [hc, hy]
theorem grid_cells {cs : List Value} {a b c d : Int} {y : DataW H × List MemPlace} (h : DataW.trod enc Tryd.prog w base sp held fuel 61 cs = some y) (hy : y.1 = gridD a b c d) : cs[0]? = some (.int .i64 a) ∧ cs[1]? = some (.int .i64 b) ∧ cs[2]? = some (.int .i64 c) ∧ cs[3]? = some (.int .i64 d) := by
  obtain ⟨xs, n, _, hx, hl, hn, hf⟩ := DataW.trod_struct Tryd.underlying61 h
  have q0 := hf 0 _ rfl
  have q1 := hf 1 _ rfl
  have q2 := hf 2 _ rfl
  have q3 := hf 3 _ rfl
  rw [hx] at hy
  clear hf h hx
  unfold gridD at hy
  match xs, hn with
  | [y0, y1, y2, y3], _ =>
    simp at hy
    obtain ⟨e0, e1, e2, e3⟩ := hy
    have r0 := int_cells (q0.trans rfl) e0
    have r1 := int_cells (q1.trans rfl) e1
    have r2 := int_cells (q2.trans rfl) e2
    have r3 := int_cells (q3.trans rfl) e3
    simp only [List.getElem_toArray, List.getElem_cons_zero, List.getElem_cons_succ, cellsInt14] at r0 r1 r2 r3
    refine ⟨?_, ?_, ?_, ?_⟩
    · have := congrArg (·[0]?) r0
      simpa [List.getElem?_take, List.getElem?_drop] using this
    · have := congrArg (·[0]?) r1
      simpa [List.getElem?_take, List.getElem?_drop] using this
    · have := congrArg (·[0]?) r2
      simpa [List.getElem?_take, List.getElem?_drop] using this
    · have := congrArg (·[0]?) r3
      simpa [List.getElem?_take, List.getElem?_drop] using this
/-- The seven grids as a row lists them. -/
def gridsD {H : Type} : List (DataW H) := [gridD 0 0 8 8, gridD 4 0 8 8, gridD 0 4 4 8, gridD 2 0 4 4, gridD 0 2 2 4, gridD 1 0 2 2, gridD 0 1 1 2]
theorem gridsD_at (p : Nat) (hp : p < 7) : (gridsD : List (DataW H))[p]? = some (gridD (px p : Int) (py p : Int) (pdx p : Int) (pdy p : Int)) := by
  match p, hp with
  | 0, _ => rfl
  | 1, _ => rfl
  | 2, _ => rfl
  | 3, _ => rfl
  | 4, _ => rfl
  | 5, _ => rfl
  | 6, _ => rfl
  | k + 7, hk => omega
theorem grids_cells {cs : List Value} {q : List MemPlace} (h : DataW.trod enc Tryd.prog w base sp held fuel 62 cs = some (.agg gridsD, q)) (p : Nat) (hp : p < 7) : cs[p * 4]? = some (.int .i64 (px p : Int)) ∧ cs[p * 4 + 1]? = some (.int .i64 (py p : Int)) ∧ cs[p * 4 + 2]? = some (.int .i64 (pdx p : Int)) ∧ cs[p * 4 + 3]? = some (.int .i64 (pdy p : Int)) := by
  obtain ⟨xs, n, _, hx, hl, hn, hf⟩ := DataW.trod_array Tryd.underlying62 h
  have q := hf p hp
  rw [cellsGrid] at q
  have hm : (gridsD : List (DataW H)) = xs.map (·.1) := by
    have := congrArg Prod.fst hx
    simpa using this
  have ha := gridsD_at (H := H) p hp
  rw [hm, List.getElem?_map] at ha
  rcases hy : xs[p]? with _ | y
  · rw [hy] at ha
    cases ha
  · rw [hy] at ha q
    have e : y.1 = gridD (px p : Int) (py p : Int) (pdx p : Int) (pdy p : Int) := by simpa using ha
    obtain ⟨r0, r1, r2, r3⟩ := grid_cells q e
    refine ⟨?_, ?_, ?_, ?_⟩
    · simpa [List.getElem?_take, List.getElem?_drop] using r0
    · simpa [List.getElem?_take, List.getElem?_drop] using r1
    · simpa [List.getElem?_take, List.getElem?_drop] using r2
    · simpa [List.getElem?_take, List.getElem?_drop] using r3
end
theorem grid_laid {W : World} {rest : List (String × DataW Unit)} (h : laidMet Tryd.prog (("loop.example/g00099/impl.passGrids", Rows.laid_loop_example_g00099_impl_passGrids) :: rest) W) : GridG W := by
  obtain ⟨ps, ⟨g', t', cs, fuel, p, q, hg', ht', hvar, hd, _, _⟩, _⟩ := h
  obtain rfl := Option.some.inj (gGrid.symm.trans hg')
  obtain rfl := Option.some.inj (gGridType.symm.trans ht')
  have hc : ∀ i v, cs.toList[i]? = some v → W.cell? ⟨0, i, none⟩ = some v := fun i v hv => (World.var?_cell gGrid hvar i).trans (by simpa using hv)
  have hall := fun p hp => grids_cells hd p hp
  refine ⟨?_, fun p hp => ⟨hc _ _ (hall p hp).1, hc _ _ (hall p hp).2.1, hc _ _ (hall p hp).2.2.1, hc _ _ (hall p hp).2.2.2⟩⟩
  have h0 := hc _ _ (hall 0 (by omega)).1
  exact World.block_lt_of_cell? W _ h0
end Go.Proofs.YtmanafegckibjaaDoor
