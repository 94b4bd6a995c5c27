/-
  The walks of the program's FixedLengths, and of what it leans on: slices.Repeat of one number, slices.Concat of four lists, slices.Grow of none, bits.Mul.
  The walk of slices.Concat over two lists of numbers.
-/
import Derived.Test.YtbcnlggkoidmmaaGreatDoorPk08
import Derived.Test.YtbcnlggkoidmmaaGreatDoorPk13
import Derived.Test.YtbcnlggkoidmmaaGreatDoorPk11
import Derived.WalkKit
import Derived.ProofKit
import Derived.WalkLawsBesides
import Derived.RegionTactic
import Derived.Deep.QuietTactic
import Derived.Deep.RegionLaw
import Derived.Deep.LoopGhost
import Derived.Laws.CopyRow
import Derived.Laws.CopyOwn
import Derived.Lib.AppendZeros
import Derived.OwnWalk
import Derived.BigQuiet
import Derived.Below
namespace Go.Proofs.YtbcnlggkoidmmaaGreatDoor
open Go.RowKit Go.Joins InfMath

theorem u64_and_nat (a b : Nat) (ha : a < 18446744073709551616) (hb : b < 18446744073709551616) : bits .and .u64 (a : Int) (b : Int) = ((a &&& b : Nat) : Int) := by
  have h1 : (BitVec.ofInt 64 (a : Int)).toNat = a := by
    rw [BitVec.ofInt_natCast, BitVec.toNat_ofNat]; exact Nat.mod_eq_of_lt (by omega)
  have h2 : (BitVec.ofInt 64 (b : Int)).toNat = b := by
    rw [BitVec.ofInt_natCast, BitVec.toNat_ofNat]; exact Nat.mod_eq_of_lt (by omega)
  have hx : a &&& b ≤ a := Nat.and_le_left
  show IntKind.u64.wrap ((BitVec.ofInt 64 (a : Int) &&& BitVec.ofInt 64 (b : Int)).toNat : Int) = _
  rw [BitVec.toNat_and, h1, h2, IntKind.wrap_u64]
  omega
theorem low32 (a : Nat) (h : a < 4294967296) : bits .and .u64 (a : Int) 4294967295 = (a : Int) := by
  have := u64_and_nat a 4294967295 (by omega) (by omega)
  rw [show (4294967295 : Nat) = 2 ^ 32 - 1 from rfl, Nat.and_two_pow_sub_one_eq_mod, Nat.mod_eq_of_lt (by omega)] at this
  exact this
set_option maxHeartbeats 800000 in
theorem mul64_one (y : Nat) (w : World) (h : y ≤ 100000) :
    Calls Tryz.prog 135 #[.int .u64 1, .int .u64 (y : Int)] w fun e w' => e = .returned (.tuple #[.int .u64 0, .int .u64 (y : Int)]) ∧ w' = w := by
  have e1 : bits .and .u64 (1 : Int) 4294967295 = 1 := low32 1 (by omega)
  have e0 : bits .and .u64 (0 : Int) 4294967295 = 0 := low32 0 (by omega)
  have e2 := low32 y (by omega)
  have s1 : (y : Int) / 4294967296 = 0 := by omega
  go_enter Tryz.func135, Tryz.ntmps135
  go_wp2_with fail
  go_ret2
  exact ⟨rfl, rfl⟩
set_option maxHeartbeats 800000 in
theorem mul_one (y : Nat) (w : World) (h : y ≤ 100000) :
    Calls Tryz.prog 102 #[.int .u64 1, .int .u64 (y : Int)] w fun e w' => e = .returned (.tuple #[.int .u64 0, .int .u64 (y : Int)]) ∧ w' = w := by
  have hm := mul64_one y w h
  go_enter Tryz.func102, Tryz.ntmps102
  go_wp2_with fail
  refine hm.mono ?_
  rintro e w1 ⟨rfl, rfl⟩
  go_wp2_with fail
  go_ret2
  exact ⟨rfl, rfl⟩

/-- A row of k numbers of which the first n are y. -/
def rep (k n : Nat) (y : Int) : Array Value := (List.replicate n (Value.int .i64 y) ++ List.replicate (k - n) (Value.int .i64 0)).toArray
/-- 'append' by its own run. -/
theorem wpList_by_run {w w' : World} {v x y : Value} {ops : Array Oper} {rest : List Oper} {o : Oper} {a : Act} {Q : Exit → Act → World → Prop} (hgd : o.guard = none) (d s : Operand) (dT sT : TypeId)
    (ho : o.op = .call { callee := .builtin .append, args := #[d, s], argTypes := #[dT, sT] }) (hd : a.eval d = x) (hs : a.eval s = y) (hrun : (Builtin.append_ #[dT, sT] o.type #[x, y]).run Tryz.prog w = .ok v w')
    (h : wpList Tryz.prog ops Q rest (a.put o.dst v) w') : wpList Tryz.prog ops Q (o :: rest) a w := by
  refine wpList_plain hgd fun K hK => ?_
  unfold Oper.wp
  simp only [execOp, ho, resolve, invoke, builtin, Sem.run_bind, Sem.run_pure, Result.andThen_ok, List.map_toArray, List.map_cons, List.map_nil, hd, hs, hrun]
  exact hK _ _ h
set_option maxRecDepth 100000 in
set_option maxHeartbeats 1600000 in
theorem grow_nil (n : Nat) (w : World) (h1 : 1 ≤ n) (h2 : n ≤ 1000) :
    Calls Tryz.prog 101 #[.slice none 0 0, .int .i64 (n : Int)] w fun e w' => ∃ g c, e = .returned (.slice (some ⟨g, 0, none⟩) 0 c) ∧ NumRow w' w.heap.size (.slice (some ⟨g, 0, none⟩) 0 c) [] ∧ Below w.heap.size w w' := by
  obtain ⟨i0, hi0, hz0, hz1, hz2⟩ := info_parts info_int
  have hap := Lib.run_append_nil_zeros (P := Tryz.prog) w 26 3 26 3 i0 (.int .i64 0) .i64 .i64 Tryz.underlying26 Tryz.underlying3 hi0 hz0 n (by omega) (by omega) (by omega) (by rw [hz2]; omega)
  have hge := grownCap_ge w n 0 3
  have hle := grownCap_le_maxLen w n 0 3 (by unfold maxLen; omega)
  have HO : Hid (NumRow (w.drew.alloc (.cells (Builtin.zeroCells (Value.int .i64 0).cells n ++ Builtin.zeroCells (Value.int .i64 0).cells (grownCap w n 0 3 - n)) 3)) w.heap.size (.slice (some ⟨w.heap.size, 0, none⟩) 0 (grownCap w n 0 3)) [] ∧ Below w.heap.size w (w.drew.alloc (.cells (Builtin.zeroCells (Value.int .i64 0).cells n ++ Builtin.zeroCells (Value.int .i64 0).cells (grownCap w n 0 3 - n)) 3))) := by
    refine ⟨⟨rfl, .inr ⟨w.heap.size, grownCap w n 0 3, _, rfl, Nat.le_refl _, heap_alloc_new w.drew _, Nat.zero_le _, hle, ?_, by simp [ivals]⟩⟩, (Below.refl _ _).drew.alloc (Nat.le_refl _) _⟩
    simp [Builtin.zeroCells, Value.cells]
    omega
  generalize w.drew.alloc _ = W at hap HO
  generalize grownCap w n 0 3 = cp at *
  have d1 : decide ((n : Int) < 0) = false := decide_eq_false (by omega)
  have d2 : decide ((0 : Int) < (n : Int)) = true := decide_eq_true (by omega)
  have d3 : decide (0 < n) = true := decide_eq_true (by omega)
  clear hi0 hz0 hz1 hz2
  go_enter Tryz.func101, Tryz.ntmps101
  go_wp2_with (at_builtin; refine wpList_by_run rfl _ _ _ _ rfl rfl rfl hap ?_)
  go_wp2_with fail
  go_ret
  exact ⟨w.heap.size, cp, rfl, HO.out⟩

/-- The first i lists, one behind the other. -/
def catTo (Ls : Nat → List Int) : Nat → List Int
  | 0 => []
  | i + 1 => catTo Ls i ++ Ls i
end Go.Proofs.YtbcnlggkoidmmaaGreatDoor

namespace Go.Proofs.YtbcnlggkoidmmaaGreatDoor
open Go.RowKit Go.Joins InfMath

theorem catTo_small2 {Ls : Nat → List Int} (h : ∀ i, i < 2 → (Ls i).length ≤ 400) : ∀ i, i ≤ 2 → (catTo Ls i).length ≤ 400 * i
  | 0, _ => by simp [catTo]
  | i + 1, hi => by
    have h1 := catTo_small2 h i (by omega)
    have h2 := h i (by omega)
    show (catTo Ls i ++ Ls i).length ≤ _
    rw [List.length_append]
    omega
/-- Two lists of numbers in the row of block sb. -/
structure TwoL (w : World) (sb : Nat) (A : Nat → Option Addr) (C : Nat → Nat) (Ls : Nat → List Int) : Prop where
  lt : sb < w.heap.size
  cell : ∀ i, i < 2 → w.cell? ⟨sb, i, none⟩ = some (.slice (A i) (Ls i).length (C i))
  row : ∀ i, i < 2 → ∀ ad, A i = some ad → ∀ j u, (ivals (Ls i))[j]? = some u → w.cell? (ad.add j) = some u
  low : ∀ i, i < 2 → ∀ ad, A i = some ad → ∃ g off, ad = ⟨g, off, none⟩ ∧ g < w.heap.size
  none : ∀ i, i < 2 → A i = none → (Ls i).length = 0 ∧ C i = 0
  small : ∀ i, i < 2 → (Ls i).length ≤ 400
theorem TwoL.called {w w' : World} {sb : Nat} {A : Nat → Option Addr} {C : Nat → Nat} {Ls : Nat → List Int} (h : TwoL w sb A C Ls) (hb : Below w.heap.size w w') : TwoL w' sb A C Ls where
  lt := Nat.lt_of_lt_of_le h.lt hb.size
  cell := fun i hi => (hb.cell (p := ⟨sb, i, Option.none⟩) h.lt).trans (h.cell i hi)
  row := fun i hi ad he j u hu => by
    obtain ⟨g, off, rfl, hg⟩ := h.low i hi ad he
    rw [← h.row i hi _ he j u hu, Addr.add_lit]
    exact hb.cell (p := ⟨g, off + j, Option.none⟩) hg
  low := fun i hi ad he => by
    obtain ⟨g, off, e, hg⟩ := h.low i hi ad he
    exact ⟨g, off, e, Nat.lt_of_lt_of_le hg hb.size⟩
  none := h.none
  small := h.small
set_option maxRecDepth 100000 in
set_option maxHeartbeats 1600000 in
theorem concat_two (sb c : Nat) (A : Nat → Option Addr) (C : Nat → Nat) (Ls : Nat → List Int) (w : World) (h : TwoL w sb A C Ls) (h1 : 1 ≤ (catTo Ls 2).length) :
    Calls Tryz.prog 64 #[.slice (some ⟨sb, 0, none⟩) 2 c] w fun e w' => ∃ a c', e = .returned (.slice a (catTo Ls 2).length c') ∧ NumRow w' w.heap.size (.slice a (catTo Ls 2).length c') (catTo Ls 2) ∧ Below w.heap.size w w' := by
  have HF := hid_of h
  have hsm := catTo_small2 h.small
  clear h
  go_enter Tryz.func64, Tryz.ntmps64
  go_wp2_with fail
  go_loopg [3, 11] 3 (fun gk v u w' => ∃ i : Nat, i ≤ 2 ∧ v = .int .i64 ((catTo Ls i).length : Int) ∧ u = .int .i64 (i : Int) ∧ 2 - i ≤ gk ∧ Hid (w' = w))
  case atStart => exact ⟨0, by omega, rfl, rfl, by omega, rfl⟩
  case round =>
    obtain ⟨i, hi, rfl, rfl, hgk, HE⟩ := hrel
    have hE : w = wr := HE.out.symm
    subst hE
    clear HE
    by_cases hlt : i < 2
    · have dl : decide ((i : Int) < 2) = true := decide_eq_true (by omega)
      have dl2 : decide (i < 2) = true := decide_eq_true hlt
      have hc := HF.out.cell i hlt
      have hl := HF.out.lt
      have hs1 := hsm i (by omega)
      have hs2 := HF.out.small i hlt
      have HNX : Hid ((catTo Ls (i + 1)).length = (catTo Ls i).length + (Ls i).length) := by
        show (catTo Ls i ++ Ls i).length = _
        rw [List.length_append]
      have x0 : (0 : Int) ≤ (i : Int) := by omega
      have x1 : (i : Int) < 2 := by omega
      generalize (catTo Ls i).length = n1 at *
      generalize (Ls i).length = n2 at *
      have dn : decide ((n1 : Int) + (n2 : Int) < 0) = false := decide_eq_false (by omega)
      go_wp2_with fail
      go_roundg (2 - (i + 1))
      case measure => omega
      case rel => exact ⟨i + 1, by omega, by rw [HNX.out]; go_num, by go_num, Nat.le_refl _, rfl⟩
    · obtain rfl : i = 2 := by omega
      have dl : decide (((2 : Nat) : Int) < 2) = false := by decide
      have hgr := grow_nil (catTo Ls 2).length w h1 (by have := hsm 2 (by omega); omega)
      go_wp2_with fail
      refine hgr.mono ?_
      clear hgr
      rintro e w1 ⟨g, c1, rfl, hnr, hb⟩
      have H0 : Hid (NumRow w1 w.heap.size (.slice (some ⟨g, 0, none⟩) 0 c1) (catTo Ls 0) ∧ Below w.heap.size w w1) := ⟨hnr, hb⟩
      clear hnr hb
      go_wp2_with fail
      go_loopg [6, 27] 3 (fun gk v u w' => ∃ (i : Nat) (a : Option Addr) (c : Nat), i ≤ 2 ∧ v = .slice a (catTo Ls i).length c ∧ u = .int .i64 (i : Int) ∧ 2 - i ≤ gk ∧ Hid (NumRow w' w.heap.size (.slice a (catTo Ls i).length c) (catTo Ls i) ∧ Below w.heap.size w w'))
      case atStart => exact ⟨0, _, _, by omega, rfl, rfl, by omega, H0⟩
      case round =>
        clear H0
        obtain ⟨i, a, cc, hi, rfl, rfl, hgk, hR⟩ := hrel
        by_cases hlt : i < 2
        · have dl : decide ((i : Int) < 2) = true := decide_eq_true (by omega)
          have dl2 : decide (i < 2) = true := decide_eq_true hlt
          have hF := HF.out.called hR.out.2
          have hc := hF.cell i hlt
          have hl := hF.lt
          have hs1 := hsm i (by omega)
          have hs2 := hF.small i hlt
          have x0 : (0 : Int) ≤ (i : Int) := by omega
          have x1 : (i : Int) < 2 := by omega
          have hrw := hF.row i hlt
          have hnn := hF.none i hlt
          have HRW := hid_of hrw
          have HNN := hid_of hnn
          have hsz := hR.out.2.size
          clear hF hrw hnn
          go_wp2_with (at_builtin; refine nums_append (S := w.heap.size) (xs := catTo Ls i) (ys := Ls i) rfl _ _ rfl rfl hR.out.1 (A i) (Ls i).length (C i) rfl rfl HRW.out HNN.out (by omega) hsz ?_)
          intro v2 w2 y1 y2
          obtain ⟨a2, c2, hv2, _⟩ := y1.form
          subst hv2
          have HN : Hid (NumRow w2 w.heap.size (.slice a2 (catTo Ls (i + 1)).length c2) (catTo Ls (i + 1)) ∧ Below w.heap.size w w2) := ⟨y1, hR.out.2.grown y2 hsz (fun k e => (World.ownsRow.lt hR.out.1 k e).1)⟩
          have HLN : Hid ((catTo Ls i ++ Ls i).length = (catTo Ls (i + 1)).length) := rfl
          clear y1 y2 hR HRW HNN hc
          rw [HLN.out]
          go_wp2_with fail
          go_roundg (2 - (i + 1))
          case measure => omega
          case rel => exact ⟨i + 1, a2, c2, by omega, rfl, by go_num, Nat.le_refl _, HN⟩
        · obtain rfl : i = 2 := by omega
          have dl : decide (((2 : Nat) : Int) < 2) = false := by decide
          have HE := hid_of hR.out
          clear hR
          go_wp2_with fail
          go_ret
          exact ⟨a, cc, rfl, HE.out⟩

/-- Two lists that came in, one behind the other. -/
theorem concat_came (a1 a2 : Option Addr) (n1 k1 n2 k2 : Nat) (f1 f2 : Nat → Int) (w : World) (t : TypeId) (h1 : Came w a1 n1 f1) (h2 : Came w a2 n2 f2) (hn1 : 1 ≤ n1) (hm1 : n1 ≤ 400) (hn2 : 1 ≤ n2) (hm2 : n2 ≤ 400) :
    Calls Tryz.prog 64 #[.slice (some ⟨w.heap.size, 0, none⟩) 2 2] (w.alloc (.cells #[.slice a1 n1 k1, .slice a2 n2 k2] t)) fun e w' => ∃ a c, e = .returned (.slice a (n1 + n2) c) ∧ Came w' a (n1 + n2) (fun i => if i < n1 then f1 i else f2 (i - n1)) ∧ Below w.heap.size w w' := by
  have hn := heap_alloc_new w (.cells #[.slice a1 n1 k1, .slice a2 n2 k2] t)
  have hb := bstart w (.cells #[.slice a1 n1 k1, .slice a2 n2 k2] t)
  generalize w.alloc _ = W at hn hb
  have q1 := h1.called hb
  have q2 := h2.called hb
  have hT : TwoL W w.heap.size (fun i => if i = 0 then a1 else a2) (fun i => if i = 0 then k1 else k2) (fun i => if i = 0 then firstJ f1 n1 else firstJ f2 n2) := by
    refine ⟨block_lt hn, fun i hi => ?_, fun i hi ad he => ?_, fun i hi ad he => ?_, fun i hi he => ?_, fun i hi => ?_⟩
    · rw [cell_of_block hn i]
      rcases (show i = 0 ∨ i = 1 by omega) with rfl | rfl <;> simp [firstJ_length]
    · rcases (show i = 0 ∨ i = 1 by omega) with rfl | rfl
      · exact came_ivals q1 he
      · exact came_ivals q2 he
    · rcases (show i = 0 ∨ i = 1 by omega) with rfl | rfl
      · rcases q1 with q | ⟨g, off, e, hg, _⟩
        · omega
        · exact ⟨g, off, by have : a1 = some ad := he; rw [this] at e; exact Option.some.inj e, hg⟩
      · rcases q2 with q | ⟨g, off, e, hg, _⟩
        · omega
        · exact ⟨g, off, by have : a2 = some ad := he; rw [this] at e; exact Option.some.inj e, hg⟩
    · rcases (show i = 0 ∨ i = 1 by omega) with rfl | rfl
      · rcases q1 with q | ⟨g, off, e, hg, _⟩
        · omega
        · have : a1 = none := he
          rw [this] at e
          cases e
      · rcases q2 with q | ⟨g, off, e, hg, _⟩
        · omega
        · have : a2 = none := he
          rw [this] at e
          cases e
    · rcases (show i = 0 ∨ i = 1 by omega) with rfl | rfl
      · show (firstJ f1 n1).length ≤ 400
        rw [firstJ_length]
        exact hm1
      · show (firstJ f2 n2).length ≤ 400
        rw [firstJ_length]
        exact hm2
  have hcat : catTo (fun i => if i = 0 then firstJ f1 n1 else firstJ f2 n2) 2 = firstJ f1 n1 ++ firstJ f2 n2 := rfl
  have hlen : (catTo (fun i => if i = 0 then firstJ f1 n1 else firstJ f2 n2) 2).length = n1 + n2 := by rw [hcat, List.length_append, firstJ_length, firstJ_length]
  refine (concat_two w.heap.size 2 _ _ _ W hT (by rw [hlen]; omega)).mono ?_
  rintro e w' ⟨a, c, rfl, hr, hb2⟩
  rw [hlen] at hr
  refine ⟨a, c, by rw [hlen], ?_, bnext hb hb2⟩
  rw [hcat] at hr
  exact came_cat hr
end Go.Proofs.YtbcnlggkoidmmaaGreatDoor
