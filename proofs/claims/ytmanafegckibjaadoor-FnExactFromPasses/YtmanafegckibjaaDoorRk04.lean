/-
  What a row that lists the program's table of grids says of its cells.
  The walks of what the exact laws do with slices of numbers: copied, compared, marked, looked at again.
  The walks of what the exact laws do with slices of numbers: marked, looked at again.
-/
import Derived.Test.YtmanafegckibjaaDoorRows
import Derived.Test.YtmanafegckibjaaDoorRk01
import Derived.Test.YtmanafegckibjaaDoorRk03
import Derived.Test.YtmanafegckibjaaDoorRk02
import Derived.WalkKit
import Derived.ProofKit
import Derived.OpenShut
import Derived.ChangeOld
import Derived.ChangeVars
import Derived.LaidLaws
import Derived.ChangeArms
import Derived.Lib.LaidTab
import Derived.Lib.SmallJoins
import Derived.WalkLawsBesides
import Derived.OwnWalk
import Derived.Deep.QuietTactic
import Derived.BigQuiet
import Derived.RegionTactic
namespace Go.Proofs.YtmanafegckibjaaDoor
open Go.ChangeShapes Go.WideShapes Go.ChangeAt Go.RowKit Go.Joins PassMath

theorem gGrid : Tryd.prog.globalNamed "loop.example/g00099/impl.passGrids" = some 0 := by kernel_rfl
theorem gGridType : (Tryd.prog.globals[0]?).map (·.type) = some 62 := by kernel_rfl
theorem cellsGrid : Tryd.prog.cellsOf 61 = 4 := by kernel_rfl
theorem cellsInt14 : Tryd.prog.cellsOf 3 = 1 := by kernel_rfl
/-- A grid as a row lists it. -/
def gridD {H : Type} (a b c d : Int) : DataW H := .agg [.lit (.int .i64 a), .lit (.int .i64 b), .lit (.int .i64 c), .lit (.int .i64 d)]
section
variable {H : Type} {enc : TypeId × Value → H} {w : World} {base : Nat} {sp : Nat → Bool} {held : Bool} {fuel : Nat}
theorem int_cells {cs : List Value} {a : Int} {y : DataW H × List MemPlace} (h : DataW.trod enc Tryd.prog w base sp held fuel 3 cs = some y) (hy : y.1 = .lit (.int .i64 a)) : cs = [.int .i64 a] := by
  obtain ⟨z, hc, hx, _⟩ := DataW.trod_int Tryd.underlying3 h
  rw [hx] at hy
  simp at hy
  rw [hc, hy]
theorem grid_cells {cs : List Value} {a b c d : Int} {y : DataW H × List MemPlace} (h : DataW.trod enc Tryd.prog w base sp held fuel 61 cs = some y) (hy : y.1 = gridD a b c d) : cs[0]? = some (.int .i64 a) ∧ cs[1]? = some (.int .i64 b) ∧ cs[2]? = some (.int .i64 c) ∧ cs[3]? = some (.int .i64 d) := by
  obtain ⟨xs, n, _, hx, hl, hn, hf⟩ := DataW.trod_struct Tryd.underlying61 h
  have q0 := hf 0 _ rfl
  have q1 := hf 1 _ rfl
  have q2 := hf 2 _ rfl
  have q3 := hf 3 _ rfl
  rw [hx] at hy
  clear hf h hx
  unfold gridD at hy
  match xs, hn with
  | [y0, y1, y2, y3], _ =>
    simp at hy
    obtain ⟨e0, e1, e2, e3⟩ := hy
    have r0 := int_cells (q0.trans rfl) e0
    have r1 := int_cells (q1.trans rfl) e1
    have r2 := int_cells (q2.trans rfl) e2
    have r3 := int_cells (q3.trans rfl) e3
    simp only [List.getElem_toArray, List.getElem_cons_zero, List.getElem_cons_succ, cellsInt14] at r0 r1 r2 r3
    refine ⟨?_, ?_, ?_, ?_⟩
    · have := congrArg (·[0]?) r0
      simpa [List.getElem?_take, List.getElem?_drop] using this
    · have := congrArg (·[0]?) r1
      simpa [List.getElem?_take, List.getElem?_drop] using this
    · have := congrArg (·[0]?) r2
      simpa [List.getElem?_take, List.getElem?_drop] using this
    · have := congrArg (·[0]?) r3
      simpa [List.getElem?_take, List.getElem?_drop] using this
/-- The seven grids as a row lists them. -/
def gridsD {H : Type} : List (DataW H) := [gridD 0 0 8 8, gridD 4 0 8 8, gridD 0 4 4 8, gridD 2 0 4 4, gridD 0 2 2 4, gridD 1 0 2 2, gridD 0 1 1 2]
theorem gridsD_at (p : Nat) (hp : p < 7) : (gridsD : List (DataW H))[p]? = some (gridD (px p : Int) (py p : Int) (pdx p : Int) (pdy p : Int)) := by
  match p, hp with
  | 0, _ => rfl
  | 1, _ => rfl
  | 2, _ => rfl
  | 3, _ => rfl
  | 4, _ => rfl
  | 5, _ => rfl
  | 6, _ => rfl
  | k + 7, hk => omega
theorem grids_cells {cs : List Value} {q : List MemPlace} (h : DataW.trod enc Tryd.prog w base sp held fuel 62 cs = some (.agg gridsD, q)) (p : Nat) (hp : p < 7) : cs[p * 4]? = some (.int .i64 (px p : Int)) ∧ cs[p * 4 + 1]? = some (.int .i64 (py p : Int)) ∧ cs[p * 4 + 2]? = some (.int .i64 (pdx p : Int)) ∧ cs[p * 4 + 3]? = some (.int .i64 (pdy p : Int)) := by
  obtain ⟨xs, n, _, hx, hl, hn, hf⟩ := DataW.trod_array Tryd.underlying62 h
  have q := hf p hp
  rw [cellsGrid] at q
  have hm : (gridsD : List (DataW H)) = xs.map (·.1) := by
    have := congrArg Prod.fst hx
    simpa using this
  have ha := gridsD_at (H := H) p hp
  rw [hm, List.getElem?_map] at ha
  rcases hy : xs[p]? with _ | y
  · rw [hy] at ha
    cases ha
  · rw [hy] at ha q
    have e : y.1 = gridD (px p : Int) (py p : Int) (pdx p : Int) (pdy p : Int) := by simpa using ha
    obtain ⟨r0, r1, r2, r3⟩ := grid_cells q e
    refine ⟨?_, ?_, ?_, ?_⟩
    · simpa [List.getElem?_take, List.getElem?_drop] using r0
    · simpa [List.getElem?_take, List.getElem?_drop] using r1
    · simpa [List.getElem?_take, List.getElem?_drop] using r2
    · simpa [List.getElem?_take, List.getElem?_drop] using r3
end
theorem grid_laid {W : World} {rest : List (String × DataW Unit)} (h : laidMet Tryd.prog (("loop.example/g00099/impl.passGrids", Rows.laid_loop_example_g00099_impl_passGrids) :: rest) W) : GridG W := by
  obtain ⟨ps, ⟨g', t', cs, fuel, p, q, hg', ht', hvar, hd, _, _⟩, _⟩ := h
  obtain rfl := Option.some.inj (gGrid.symm.trans hg')
  obtain rfl := Option.some.inj (gGridType.symm.trans ht')
  have hc : ∀ i v, cs.toList[i]? = some v → W.cell? ⟨0, i, none⟩ = some v := fun i v hv => (World.var?_cell gGrid hvar i).trans (by simpa using hv)
  have hall := fun p hp => grids_cells hd p hp
  refine ⟨?_, fun p hp => ⟨hc _ _ (hall p hp).1, hc _ _ (hall p hp).2.1, hc _ _ (hall p hp).2.2.1, hc _ _ (hall p hp).2.2.2⟩⟩
  have h0 := hc _ _ (hall 0 (by omega)).1
  exact World.block_lt_of_cell? W _ h0
end Go.Proofs.YtmanafegckibjaaDoor

namespace Go.Proofs.YtmanafegckibjaaDoor
open Go.RowKit Go.Joins

theorem info_i64 : (Tryd.prog.info? 3).map (fun i => (i.zero, i.size, i.bytes)) = some (some (.int .i64 0), 1, 8) := by kernel_rfl

theorem make_ints (w : World) (n : Nat) (hn : n ≤ 1048576) : (Instr.makeSlice 24 (.int .i64 n) (.int .i64 n)).run Tryd.prog w = .ok (.slice (some ⟨w.heap.size, 0, none⟩) n n) (w.alloc (.cells (madeCells #[Value.int .i64 0] n) 3)) := by
  obtain ⟨i0, hi0, hz0, hz1, hz2⟩ := info_parts info_i64
  have h := run_make (P := Tryd.prog) w 24 3 i0 (.int .i64 0) Tryd.underlying24 hi0 hz0 .i64 .i64 n n (by omega) (by omega) (by rw [hz2]; omega) (by omega)
  rw [hz1, Int.toNat_natCast, Nat.mul_one] at h
  exact h

set_option maxHeartbeats 800000 in
theorem toIntS_any (a : Option Addr) (n cap : Nat) (f : Nat → Int) (w : World) (hr : Came w a n f) (hn : n ≤ 1048576) :
    Calls Tryd.prog 47 #[.slice a n cap] w fun e w' => e = .returned (.slice (some ⟨w.heap.size, 0, none⟩) n n) ∧ IOwn w' w.heap.size w.heap.size n n f ∧ Below w.heap.size w w' := by
  have hm := make_ints w n hn
  have hO := IOwn.made (base := w.heap.size) w n (by unfold maxLen; omega) (Nat.le_refl _)
  have hB : Below w.heap.size w (w.alloc (.cells (madeCells #[Value.int .i64 0] n) 3)) := bstart _ _
  generalize w.alloc (.cells (madeCells #[Value.int .i64 0] n) 3) = w1 at hm hO hB
  have HO : Hid (IOwn w1 w.heap.size w.heap.size n n (fun _ => 0)) := hO
  have HB : Hid (Below w.heap.size w w1) := hB
  have HR : Hid (Came w a n f) := hr
  clear hO hr hB
  go_enter Tryd.func47, Tryd.ntmps47
  go_wp2_with fail
  go_loopw [4] (fun i w' => ∃ (j : Nat) (h : Nat → Int), j ≤ n ∧ i = .int .i64 j ∧ Hid (∀ i, i < j → h i = f i) ∧ Hid (IOwn w' w.heap.size w.heap.size n n h) ∧ Hid (Below w.heap.size w w')) (fun i _ => n - (intOf i).toNat)
  case atStart => exact ⟨0, _, Nat.zero_le _, rfl, fun i hi => absurd hi (Nat.not_lt_zero i), HO, HB⟩
  case round =>
    obtain ⟨j, h, hj, rfl, hh, hOj, hBj⟩ := hrel
    by_cases hlt : j < n
    · rcases HR.out with h0 | ⟨g, off, rfl, hg, hc⟩
      · omega
      · have c0 : wr.cell? ⟨g, off + j, none⟩ = some (.int .i64 (f j)) := (hBj.out.cell (p := ⟨g, off + j, none⟩) hg).trans (hc j hlt)
        have c1 := hOj.out.cell j hlt
        have f1 := hOj.out.free j hlt
        have hl := hOj.out.lt
        have hl2 : g < wr.heap.size := Nat.lt_of_lt_of_le hg hBj.out.size
        have HO1 : Hid (IOwn (wr.setCell ⟨w.heap.size, j, none⟩ (.int .i64 (f j))) w.heap.size w.heap.size n n (upd h j (f j))) := hOj.out.set j hlt _
        have HB1 : Hid (Below w.heap.size w (wr.setCell ⟨w.heap.size, j, none⟩ (.int .i64 (f j)))) := Below.setCell (p := ⟨w.heap.size, j, none⟩) hBj.out (Nat.le_refl _) _
        have HH : Hid (∀ i, i < j + 1 → upd h j (f j) i = f i) := by
          intro i hi
          unfold upd
          by_cases e : i = j
          · rw [if_pos e, e]
          · rw [if_neg e]; exact hh.out i (by omega)
        clear hc
        go_wp2_with fail
        go_roundw
        case rel => exact ⟨j + 1, _, by omega, by go_num, HH, HO1, HB1⟩
        case measure => simp [intOf]; omega
    · obtain rfl : j = n := by omega
      go_wp2_with fail
      go_ret
      exact ⟨rfl, hOj.out.congr hh.out, hBj.out⟩

set_option maxHeartbeats 800000 in
theorem eqIntS_same (a b : Option Addr) (n c1 c2 : Nat) (f : Nat → Int) (w : World) (ha : Came w a n f) (hb : Came w b n f) (hn : n ≤ 1048576) :
    Calls Tryd.prog 48 #[.slice a n c1, .slice b n c2] w fun e w' => e = .returned (.bool true) ∧ Below w.heap.size w w' := by
  have HA : Hid (Came w a n f) := ha
  have HB : Hid (Came w b n f) := hb
  clear ha hb
  go_enter Tryd.func48, Tryd.ntmps48
  go_wp2_with fail
  go_loopw [5] (fun i w' => ∃ (j : Nat), j ≤ n ∧ i = .int .i64 j ∧ Hid (Below w.heap.size w w')) (fun i _ => n - (intOf i).toNat)
  case atStart => exact ⟨0, Nat.zero_le _, rfl, Below.refl _ _⟩
  case round =>
    obtain ⟨j, hj, rfl, hBj⟩ := hrel
    by_cases hlt : j < n
    · rcases HA.out with h0 | ⟨g, off, rfl, hg, hc⟩
      · omega
      · rcases HB.out with h0 | ⟨g', off', rfl, hg', hc'⟩
        · omega
        · have k0 : wr.cell? ⟨g, off + j, none⟩ = some (.int .i64 (f j)) := (hBj.out.cell (p := ⟨g, off + j, none⟩) hg).trans (hc j hlt)
          have k1 : wr.cell? ⟨g', off' + j, none⟩ = some (.int .i64 (f j)) := (hBj.out.cell (p := ⟨g', off' + j, none⟩) hg').trans (hc' j hlt)
          have l0 : g < wr.heap.size := Nat.lt_of_lt_of_le hg hBj.out.size
          have l1 : g' < wr.heap.size := Nat.lt_of_lt_of_le hg' hBj.out.size
          clear hc hc'
          go_wp2_with fail
          go_region
          all_goals
            go_wp2_with fail
            go_roundw
            case rel => exact ⟨j + 1, by omega, by go_num, hBj.out.drew⟩
            case measure => simp [intOf]; omega
    · go_wp2_with fail
      go_ret
      exact ⟨rfl, hBj.out⟩

/-- What is the call's own, as something that came in. -/
theorem IOwn.came {w : World} {base g n cap : Nat} {f : Nat → Int} (h : IOwn w base g n cap f) : Came w (some ⟨g, 0, none⟩) n f :=
  .inr ⟨g, 0, rfl, h.lt, fun j hj => by rw [Nat.zero_add]; exact h.cell j hj⟩

end Go.Proofs.YtmanafegckibjaaDoor

namespace Go.Proofs.YtmanafegckibjaaDoor
open Go.RowKit Go.Joins

set_option maxHeartbeats 800000 in
/-- Marked: every number turned, and nothing besides. -/
theorem markIntS_own (base g n cap : Nat) (f : Nat → Int) (k : Int) (w : World) (hO : IOwn w base g n cap f) (hn : n ≤ 1048576) (hk0 : 0 ≤ k) (hk1 : k ≤ 1073741824) :
    Calls Tryd.prog 49 #[.slice (some ⟨g, 0, none⟩) n cap, .int .i64 k] w fun e w' => e = .returned (.int .i64 (k + n)) ∧ IOwn w' base g n cap (fun j => k + j) ∧ w.grownBy w' (some g) := by
  have HO : Hid (IOwn w base g n cap f) := hO
  clear hO
  go_enter Tryd.func49, Tryd.ntmps49
  go_wp2_with fail
  go_loopw [1, 5] (fun x i w' => ∃ (j : Nat) (h : Nat → Int), j ≤ n ∧ i = .int .i64 j ∧ x = .int .i64 (k + j) ∧ Hid (∀ i, i < j → h i = k + i) ∧ Hid (IOwn w' base g n cap h) ∧ Hid (w.grownBy w' (some g))) (fun _ i _ => n - (intOf i).toNat)
  case atStart => exact ⟨0, _, Nat.zero_le _, rfl, by simp, fun i hi => absurd hi (Nat.not_lt_zero i), HO, ⟨rfl, rfl, rfl, Nat.le_refl _, fun _ _ _ => rfl⟩⟩
  case round =>
    obtain ⟨j, h, hj, rfl, rfl, hh, hOj, hBj⟩ := hrel
    by_cases hlt : j < n
    · have c1 := hOj.out.cell j hlt
      have f1 := hOj.out.free j hlt
      have hl := hOj.out.lt
      have HO1 : Hid (IOwn (wr.setCell ⟨g, j, none⟩ (.int .i64 (k + j))) base g n cap (upd h j (k + j))) := hOj.out.set j hlt _
      have HB1 : Hid (w.grownBy (wr.setCell ⟨g, j, none⟩ (.int .i64 (k + j))) (some g)) := ⟨hBj.out.os, hBj.out.tape, hBj.out.output, by simpa using hBj.out.size, fun b hb hne => (Below.heap_setCell wr ⟨g, j, none⟩ _ b (by simpa using hne)).trans (hBj.out.block b hb hne)⟩
      have HH : Hid (∀ i, i < j + 1 → upd h j (k + j) i = k + i) := by
        intro i hi
        unfold upd
        by_cases e : i = j
        · rw [if_pos e, e]
        · rw [if_neg e]; exact hh.out i (by omega)
      go_wp2_with fail
      go_roundw
      case rel => exact ⟨j + 1, _, by omega, by go_num, by go_num, HH, HO1, HB1⟩
      case measure => simp [intOf]; omega
    · obtain rfl : j = n := by omega
      go_wp2_with fail
      go_ret
      exact ⟨rfl, hOj.out.congr hh.out, hBj.out⟩

/-- Nothing is marked in an empty slice. -/
theorem markIntS_none (a : Option Addr) (cap : Nat) (k : Int) (w : World) :
    Calls Tryd.prog 49 #[.slice a 0 cap, .int .i64 k] w fun e w' => e = .returned (.int .i64 k) ∧ w' = w := by
  go_enter Tryd.func49, Tryd.ntmps49
  go_wp2_with fail
  go_loop [1, 5] (fun x i => x = .int .i64 k ∧ i = .int .i64 0) (fun _ _ => 0)
  case atStart => exact ⟨rfl, rfl⟩
  case round =>
    obtain ⟨rfl, rfl⟩ := hrel
    go_wp2_with fail
    go_ret
    exact ⟨rfl, rfl⟩

set_option maxHeartbeats 800000 in
/-- Held: each number is what it was marked with. -/
theorem heldIntS_same (a : Option Addr) (n cap : Nat) (k : Int) (w : World) (hC : Came w a n (fun j => k + j)) (hn : n ≤ 1048576) (hk0 : 0 ≤ k) (hk1 : k ≤ 1073741824) :
    Calls Tryd.prog 50 #[.slice a n cap, .int .i64 k] w fun e w' => e = .returned (.int .i64 (k + n)) ∧ Below w.heap.size w w' := by
  have HC : Hid (Came w a n (fun j => k + j)) := hC
  clear hC
  go_enter Tryd.func50, Tryd.ntmps50
  go_wp2_with fail
  go_loopw [1, 5] (fun x i w' => ∃ (j : Nat), j ≤ n ∧ i = .int .i64 j ∧ x = .int .i64 (k + j) ∧ Hid (Below w.heap.size w w')) (fun _ i _ => n - (intOf i).toNat)
  case atStart => exact ⟨0, Nat.zero_le _, rfl, by simp, Below.refl _ _⟩
  case round =>
    obtain ⟨j, hj, rfl, rfl, hBj⟩ := hrel
    by_cases hlt : j < n
    · rcases HC.out with h0 | ⟨g, off, rfl, hg, hc⟩
      · omega
      · have k0 : wr.cell? ⟨g, off + j, none⟩ = some (.int .i64 (k + j)) := (hBj.out.cell (p := ⟨g, off + j, none⟩) hg).trans (hc j hlt)
        have l0 : g < wr.heap.size := Nat.lt_of_lt_of_le hg hBj.out.size
        clear hc
        go_wp2_with fail
        go_roundw
        case rel => exact ⟨j + 1, by omega, by go_num, by go_num, hBj.out⟩
        case measure => simp [intOf]; omega
    · obtain rfl : j = n := by omega
      go_wp2_with fail
      go_ret
      exact ⟨rfl, hBj.out⟩

/-- Marked: a slice that was handed back. -/
theorem markIntS_sl (base : Nat) (a : Option Addr) (n cap : Nat) (f : Nat → Int) (k : Int) (w : World) (hS : SL w base a n cap f) (hn : n ≤ 1048576) (hk0 : 0 ≤ k) (hk1 : k ≤ 1073741824) :
    Calls Tryd.prog 49 #[.slice a n cap, .int .i64 k] w fun e w' => e = .returned (.int .i64 (k + n)) ∧ SL w' base a n cap (fun j => k + j) ∧ ∃ row, (∀ g, row = some g → base ≤ g) ∧ w.grownBy w' row := by
  rcases hS with rfl | ⟨g, rfl, h⟩
  · refine (markIntS_none a cap k w).mono ?_
    rintro e w1 ⟨rfl, rfl⟩
    exact ⟨by simp, .inl rfl, none, (fun g hg => by cases hg), ⟨rfl, rfl, rfl, Nat.le_refl _, fun _ _ _ => rfl⟩⟩
  · refine (markIntS_own base g n cap f k w h hn hk0 hk1).mono ?_
    rintro e w1 ⟨rfl, hO, hg⟩
    exact ⟨rfl, .inr ⟨g, rfl, hO⟩, some g, (fun g' hg' => by cases hg'; exact h.base_le), hg⟩

end Go.Proofs.YtmanafegckibjaaDoor
