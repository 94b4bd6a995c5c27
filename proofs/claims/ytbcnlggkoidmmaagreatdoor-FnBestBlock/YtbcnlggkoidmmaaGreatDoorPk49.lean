/-
  The walk of the program's toldLengths.
  Lists of numbers that came in, as lists; two of them, one behind the other. Nothing here speaks of the program.
  The walk of slices.Concat over two lists of numbers.
-/
import Derived.Test.YtbcnlggkoidmmaaGreatDoorRows
import Derived.Test.YtbcnlggkoidmmaaGreatDoorPk01
import Derived.Test.YtbcnlggkoidmmaaGreatDoorPk06
import Derived.Test.YtbcnlggkoidmmaaGreatDoorPk29
import Derived.Test.YtbcnlggkoidmmaaGreatDoorPk19
import Derived.Test.YtbcnlggkoidmmaaGreatDoorPk22
import Derived.Test.YtbcnlggkoidmmaaGreatDoorPk43
import Derived.Test.YtbcnlggkoidmmaaGreatDoorPk10
import Derived.Test.YtbcnlggkoidmmaaGreatDoorPk07
import Derived.Test.YtbcnlggkoidmmaaGreatDoorPk27
import Derived.Test.YtbcnlggkoidmmaaGreatDoorPk33
import Derived.WalkKit
import Derived.ProofKit
import Derived.WalkLawsBesides
import Derived.Below
import Derived.Deep.LoopGhost
import Derived.Deep.MidRow
import Derived.Lib.SmallJoins
namespace Go.Proofs.YtbcnlggkoidmmaaGreatDoor
open Go.RowKit Go.Joins InfMath TrimMath WovenMath

/-- The order's table as a value. -/
def orderVs : List Value := orderL.map fun (n : Nat) => Value.int .i64 (n : Int)
theorem order_index (j : Nat) (hj : j < 19) (w : World) : (Instr.index 186 (.agg orderVs.toArray) (.int .i64 (j : Int))).run Tryz.prog w = .ok (.int .i64 ((orderL.getD j 0 : Nat) : Int)) w := by
  obtain rfl | rfl | rfl | rfl | rfl | rfl | rfl | rfl | rfl | rfl | rfl | rfl | rfl | rfl | rfl | rfl | rfl | rfl | rfl : j = 0 ∨ j = 1 ∨ j = 2 ∨ j = 3 ∨ j = 4 ∨ j = 5 ∨ j = 6 ∨ j = 7 ∨ j = 8 ∨ j = 9 ∨ j = 10 ∨ j = 11 ∨ j = 12 ∨ j = 13 ∨ j = 14 ∨ j = 15 ∨ j = 16 ∨ j = 17 ∨ j = 18 := by omega
  all_goals simp [Instr.index, run_underlying Tryz.underlying186, asIntOf, go_sem, orderL, orderVs]
theorem order_range (w : World) (hG : OrderG w) : w.rangeAt 0 0 orderVs := by
  intro j v hv
  have hj : j < 19 := by
    rcases Nat.lt_or_ge j 19 with q | q
    · exact q
    · rw [List.getElem?_eq_none (by simpa [orderVs, orderL] using q)] at hv
      cases hv
  have h := hG.2 j hj
  unfold orderVs at hv
  rw [List.getElem?_map, List.getElem?_eq_getElem (show j < orderL.length by simpa [orderL] using hj)] at hv
  rw [List.getD_eq_getElem?_getD, List.getElem?_eq_getElem (show j < orderL.length by simpa [orderL] using hj)] at h
  rw [Nat.zero_add, h]
  exact hv

/-- Under way: so many lengths are laid in the order in which they are told. -/
def TdSt (w w' : World) (g : Nat) (R : List (Int × Int)) (j : Nat) : Prop := IOwn w' w.heap.size g 19 19 (fun i => if i < j then toldF R i else 0) ∧ Below w.heap.size w w'

set_option maxRecDepth 100000 in
set_option maxHeartbeats 3200000 in
theorem toldLengths_any (a : Option Addr) (c : Nat) (R : List (Int × Int)) (w : World) (hC : Came w a 19 (third R)) (hG : OrderG w) :
    Calls Tryz.prog 78 #[.slice a 19 c] w fun e w' => ∃ g, e = .returned (.slice (some ⟨g, 0, none⟩) (toldN R) 19) ∧ IOwn w' w.heap.size g (toldN R) 19 (toldF R) ∧ Below w.heap.size w w' := by
  have hm : (Instr.makeSlice 26 (.int .i64 19) (.int .i64 19)).run Tryz.prog w = _ := make_ints w 19 (by omega)
  have H0 : Hid (TdSt w (w.alloc (.cells (madeCells #[Value.int .i64 0] 19) 3)) w.heap.size R 0) := ⟨(IOwn.made w 19 (by unfold maxLen; omega) (Nat.le_refl _)).congr fun i _ => (if_neg (by omega)).symm, bstart _ _⟩
  have HC := hid_of hC
  have HIX := hid_of order_index
  have HRG := hid_of (order_range (w.alloc (.cells (madeCells #[Value.int .i64 0] 19) 3)) (hG.below (bstart w _) hG.1))
  clear hC hG
  generalize w.alloc (.cells (madeCells #[Value.int .i64 0] 19) 3) = X0 at hm HRG H0
  go_enter Tryz.func78, Tryz.ntmps78
  go_wp2_with (refine wpList_load_mid rfl 186 (Operand.global 0) rfl 0 0 rfl orderVs _ HRG.out Tryz.underlying186 rfl (by kernel_rfl) ?_)
  go_wp2_with fail
  clear hm HRG
  generalize Value.agg orderVs.toArray = A at HIX ⊢
  go_loopg [8] 20 (fun gk i w' => ∃ (j : Nat), j ≤ 19 ∧ 19 - j ≤ gk ∧ i = .int .i64 j ∧ Hid (TdSt w w' w.heap.size R j))
  case atStart => exact ⟨0, Nat.zero_le _, by omega, rfl, H0⟩
  case round =>
    clear H0
    obtain ⟨j, hj, hgk, rfl, hS⟩ := hrel
    by_cases hlt : j < 19
    · have dl : decide ((j : Int) < 19) = true := decide_eq_true (by omega)
      have hix := HIX.out j hlt
      have ho := order_lt j
      have c1 := hS.out.1.cell j hlt
      have k1 := hS.out.1.free j hlt
      have l1 := hS.out.1.lt
      rw [if_neg (by omega)] at c1
      obtain ⟨g2, off2, ha2, hg2, c2⟩ : ∃ g off, a = some ⟨g, off, none⟩ ∧ g < wr.heap.size ∧ wr.cell? ⟨g, off + orderL.getD j 0, none⟩ = some (.int .i64 (toldF R j)) := by
        rcases HC.out.called hS.out.2 with q | ⟨g, off, ha, hg, hc⟩
        · omega
        · exact ⟨g, off, ha, hg, hc _ ho⟩
      subst ha2
      have HN : Hid (TdSt w (wr.setCell ⟨w.heap.size, j, none⟩ (.int .i64 (toldF R j))) w.heap.size R (j + 1)) := by
        refine ⟨(hS.out.1.set j hlt _).congr fun i _ => ?_, Below.setCell (p := ⟨w.heap.size, j, none⟩) hS.out.2 (Nat.le_refl _) _⟩
        unfold upd
        by_cases e : i = j
        · rw [if_pos e, if_pos (by omega), e]
        · rw [if_neg e]
          by_cases q : i < j
          · show (if i < j then toldF R i else 0) = _
            rw [if_pos q, if_pos (by omega)]
          · show (if i < j then toldF R i else 0) = _
            rw [if_neg q, if_neg (by omega)]
      generalize toldF R j = V at c2 HN
      generalize orderL.getD j 0 = od at hix ho c2
      clear hS
      go_wp2_with fail
      go_roundg (19 - (j + 1))
      case measure => omega
      case rel => exact ⟨j + 1, by omega, Nat.le_refl _, by go_num, HN⟩
    · obtain rfl : j = 19 := by omega
      have dl : decide (((19 : Nat) : Int) < 19) = false := by decide
      have HO : Hid (IOwn wr w.heap.size w.heap.size 19 19 (toldF R) ∧ Below w.heap.size w wr) := ⟨hS.out.1.congr fun i hi => if_pos hi, hS.out.2⟩
      clear hS
      go_wp2_with fail
      refine (implTrim _ 19 19 4 _ wr HO.out.1.sl.came (by omega) (by omega) (by omega) (by omega)).mono ?_
      rintro e w4 ⟨rfl, rfl⟩
      go_wp2_with fail
      go_ret
      exact ⟨_, rfl, iown_cut HO.out.1 (toldN_bd R).2, HO.out.2⟩
end Go.Proofs.YtbcnlggkoidmmaaGreatDoor

namespace Go.Proofs.YtbcnlggkoidmmaaGreatDoor
open Go.RowKit Go.Joins InfMath

theorem came_ivals {w : World} {a : Option Addr} {n : Nat} {f : Nat → Int} (h : Came w a n f) {ad : Addr} (ha : a = some ad) : ∀ j u, (ivals (firstJ f n))[j]? = some u → w.cell? (ad.add j) = some u := by
  intro j u hu
  have hj : j < n := by
    rcases Nat.lt_or_ge j n with k | k
    · exact k
    · rw [List.getElem?_eq_none (by rw [ivals_length, firstJ_length]; exact k)] at hu; cases hu
  rw [ivals_get _ j (by rw [firstJ_length]; exact hj), firstJ_getD f hj] at hu
  rcases h with q | ⟨g, off, e, hg, hc⟩
  · omega
  · rw [ha] at e
    obtain rfl := Option.some.inj e
    rw [Addr.add_lit, hc j hj]
    exact hu
theorem came_cat {W : World} {S : Nat} {a : Option Addr} {c n1 n2 : Nat} {f1 f2 : Nat → Int} (h : NumRow W S (.slice a (n1 + n2) c) (firstJ f1 n1 ++ firstJ f2 n2)) : Came W a (n1 + n2) (fun i => if i < n1 then f1 i else f2 (i - n1)) := by
  have hs := sl_of_num h (by rw [List.length_append, firstJ_length, firstJ_length])
  rcases hs with q | ⟨g, rfl, ho⟩
  · exact .inl q
  · refine (ho.congr fun i hi => ?_).sl.came
    by_cases q : i < n1
    · rw [if_pos q, List.getD_eq_getElem?_getD, List.getElem?_append_left (by rw [firstJ_length]; exact q), ← List.getD_eq_getElem?_getD, firstJ_getD f1 q]
    · rw [if_neg q, List.getD_eq_getElem?_getD, List.getElem?_append_right (by rw [firstJ_length]; omega), firstJ_length, ← List.getD_eq_getElem?_getD, firstJ_getD f2 (by omega)]
end Go.Proofs.YtbcnlggkoidmmaaGreatDoor

namespace Go.Proofs.YtbcnlggkoidmmaaGreatDoor
open Go.RowKit Go.Joins InfMath

theorem catTo_small2 {Ls : Nat → List Int} (h : ∀ i, i < 2 → (Ls i).length ≤ 400) : ∀ i, i ≤ 2 → (catTo Ls i).length ≤ 400 * i
  | 0, _ => by simp [catTo]
  | i + 1, hi => by
    have h1 := catTo_small2 h i (by omega)
    have h2 := h i (by omega)
    show (catTo Ls i ++ Ls i).length ≤ _
    rw [List.length_append]
    omega
/-- Two lists of numbers in the row of block sb. -/
structure TwoL (w : World) (sb : Nat) (A : Nat → Option Addr) (C : Nat → Nat) (Ls : Nat → List Int) : Prop where
  lt : sb < w.heap.size
  cell : ∀ i, i < 2 → w.cell? ⟨sb, i, none⟩ = some (.slice (A i) (Ls i).length (C i))
  row : ∀ i, i < 2 → ∀ ad, A i = some ad → ∀ j u, (ivals (Ls i))[j]? = some u → w.cell? (ad.add j) = some u
  low : ∀ i, i < 2 → ∀ ad, A i = some ad → ∃ g off, ad = ⟨g, off, none⟩ ∧ g < w.heap.size
  none : ∀ i, i < 2 → A i = none → (Ls i).length = 0 ∧ C i = 0
  small : ∀ i, i < 2 → (Ls i).length ≤ 400
theorem TwoL.called {w w' : World} {sb : Nat} {A : Nat → Option Addr} {C : Nat → Nat} {Ls : Nat → List Int} (h : TwoL w sb A C Ls) (hb : Below w.heap.size w w') : TwoL w' sb A C Ls where
  lt := Nat.lt_of_lt_of_le h.lt hb.size
  cell := fun i hi => (hb.cell (p := ⟨sb, i, Option.none⟩) h.lt).trans (h.cell i hi)
  row := fun i hi ad he j u hu => by
    obtain ⟨g, off, rfl, hg⟩ := h.low i hi ad he
    rw [← h.row i hi _ he j u hu, Addr.add_lit]
    exact hb.cell (p := ⟨g, off + j, Option.none⟩) hg
  low := fun i hi ad he => by
    obtain ⟨g, off, e, hg⟩ := h.low i hi ad he
    exact ⟨g, off, e, Nat.lt_of_lt_of_le hg hb.size⟩
  none := h.none
  small := h.small
set_option maxRecDepth 100000 in
set_option maxHeartbeats 1600000 in
theorem concat_two (sb c : Nat) (A : Nat → Option Addr) (C : Nat → Nat) (Ls : Nat → List Int) (w : World) (h : TwoL w sb A C Ls) (h1 : 1 ≤ (catTo Ls 2).length) :
    Calls Tryz.prog 64 #[.slice (some ⟨sb, 0, none⟩) 2 c] w fun e w' => ∃ a c', e = .returned (.slice a (catTo Ls 2).length c') ∧ NumRow w' w.heap.size (.slice a (catTo Ls 2).length c') (catTo Ls 2) ∧ Below w.heap.size w w' := by
  have HF := hid_of h
  have hsm := catTo_small2 h.small
  clear h
  go_enter Tryz.func64, Tryz.ntmps64
  go_wp2_with fail
  go_loopg [3, 11] 3 (fun gk v u w' => ∃ i : Nat, i ≤ 2 ∧ v = .int .i64 ((catTo Ls i).length : Int) ∧ u = .int .i64 (i : Int) ∧ 2 - i ≤ gk ∧ Hid (w' = w))
  case atStart => exact ⟨0, by omega, rfl, rfl, by omega, rfl⟩
  case round =>
    obtain ⟨i, hi, rfl, rfl, hgk, HE⟩ := hrel
    have hE : w = wr := HE.out.symm
    subst hE
    clear HE
    by_cases hlt : i < 2
    · have dl : decide ((i : Int) < 2) = true := decide_eq_true (by omega)
      have dl2 : decide (i < 2) = true := decide_eq_true hlt
      have hc := HF.out.cell i hlt
      have hl := HF.out.lt
      have hs1 := hsm i (by omega)
      have hs2 := HF.out.small i hlt
      have HNX : Hid ((catTo Ls (i + 1)).length = (catTo Ls i).length + (Ls i).length) := by
        show (catTo Ls i ++ Ls i).length = _
        rw [List.length_append]
      have x0 : (0 : Int) ≤ (i : Int) := by omega
      have x1 : (i : Int) < 2 := by omega
      generalize (catTo Ls i).length = n1 at *
      generalize (Ls i).length = n2 at *
      have dn : decide ((n1 : Int) + (n2 : Int) < 0) = false := decide_eq_false (by omega)
      go_wp2_with fail
      go_roundg (2 - (i + 1))
      case measure => omega
      case rel => exact ⟨i + 1, by omega, by rw [HNX.out]; go_num, by go_num, Nat.le_refl _, rfl⟩
    · obtain rfl : i = 2 := by omega
      have dl : decide (((2 : Nat) : Int) < 2) = false := by decide
      have hgr := grow_nil (catTo Ls 2).length w h1 (by have := hsm 2 (by omega); omega)
      go_wp2_with fail
      refine hgr.mono ?_
      clear hgr
      rintro e w1 ⟨g, c1, rfl, hnr, hb⟩
      have H0 : Hid (NumRow w1 w.heap.size (.slice (some ⟨g, 0, none⟩) 0 c1) (catTo Ls 0) ∧ Below w.heap.size w w1) := ⟨hnr, hb⟩
      clear hnr hb
      go_wp2_with fail
      go_loopg [6, 27] 3 (fun gk v u w' => ∃ (i : Nat) (a : Option Addr) (c : Nat), i ≤ 2 ∧ v = .slice a (catTo Ls i).length c ∧ u = .int .i64 (i : Int) ∧ 2 - i ≤ gk ∧ Hid (NumRow w' w.heap.size (.slice a (catTo Ls i).length c) (catTo Ls i) ∧ Below w.heap.size w w'))
      case atStart => exact ⟨0, _, _, by omega, rfl, rfl, by omega, H0⟩
      case round =>
        clear H0
        obtain ⟨i, a, cc, hi, rfl, rfl, hgk, hR⟩ := hrel
        by_cases hlt : i < 2
        · have dl : decide ((i : Int) < 2) = true := decide_eq_true (by omega)
          have dl2 : decide (i < 2) = true := decide_eq_true hlt
          have hF := HF.out.called hR.out.2
          have hc := hF.cell i hlt
          have hl := hF.lt
          have hs1 := hsm i (by omega)
          have hs2 := hF.small i hlt
          have x0 : (0 : Int) ≤ (i : Int) := by omega
          have x1 : (i : Int) < 2 := by omega
          have hrw := hF.row i hlt
          have hnn := hF.none i hlt
          have HRW := hid_of hrw
          have HNN := hid_of hnn
          have hsz := hR.out.2.size
          clear hF hrw hnn
          go_wp2_with (at_builtin; refine nums_append (S := w.heap.size) (xs := catTo Ls i) (ys := Ls i) rfl _ _ rfl rfl hR.out.1 (A i) (Ls i).length (C i) rfl rfl HRW.out HNN.out (by omega) hsz ?_)
          intro v2 w2 y1 y2
          obtain ⟨a2, c2, hv2, _⟩ := y1.form
          subst hv2
          have HN : Hid (NumRow w2 w.heap.size (.slice a2 (catTo Ls (i + 1)).length c2) (catTo Ls (i + 1)) ∧ Below w.heap.size w w2) := ⟨y1, hR.out.2.grown y2 hsz (fun k e => (World.ownsRow.lt hR.out.1 k e).1)⟩
          have HLN : Hid ((catTo Ls i ++ Ls i).length = (catTo Ls (i + 1)).length) := rfl
          clear y1 y2 hR HRW HNN hc
          rw [HLN.out]
          go_wp2_with fail
          go_roundg (2 - (i + 1))
          case measure => omega
          case rel => exact ⟨i + 1, a2, c2, by omega, rfl, by go_num, Nat.le_refl _, HN⟩
        · obtain rfl : i = 2 := by omega
          have dl : decide (((2 : Nat) : Int) < 2) = false := by decide
          have HE := hid_of hR.out
          clear hR
          go_wp2_with fail
          go_ret
          exact ⟨a, cc, rfl, HE.out⟩

/-- Two lists that came in, one behind the other. -/
theorem concat_came (a1 a2 : Option Addr) (n1 k1 n2 k2 : Nat) (f1 f2 : Nat → Int) (w : World) (t : TypeId) (h1 : Came w a1 n1 f1) (h2 : Came w a2 n2 f2) (hn1 : 1 ≤ n1) (hm1 : n1 ≤ 400) (hn2 : 1 ≤ n2) (hm2 : n2 ≤ 400) :
    Calls Tryz.prog 64 #[.slice (some ⟨w.heap.size, 0, none⟩) 2 2] (w.alloc (.cells #[.slice a1 n1 k1, .slice a2 n2 k2] t)) fun e w' => ∃ a c, e = .returned (.slice a (n1 + n2) c) ∧ Came w' a (n1 + n2) (fun i => if i < n1 then f1 i else f2 (i - n1)) ∧ Below w.heap.size w w' := by
  have hn := heap_alloc_new w (.cells #[.slice a1 n1 k1, .slice a2 n2 k2] t)
  have hb := bstart w (.cells #[.slice a1 n1 k1, .slice a2 n2 k2] t)
  generalize w.alloc _ = W at hn hb
  have q1 := h1.called hb
  have q2 := h2.called hb
  have hT : TwoL W w.heap.size (fun i => if i = 0 then a1 else a2) (fun i => if i = 0 then k1 else k2) (fun i => if i = 0 then firstJ f1 n1 else firstJ f2 n2) := by
    refine ⟨block_lt hn, fun i hi => ?_, fun i hi ad he => ?_, fun i hi ad he => ?_, fun i hi he => ?_, fun i hi => ?_⟩
    · rw [cell_of_block hn i]
      rcases (show i = 0 ∨ i = 1 by omega) with rfl | rfl <;> simp [firstJ_length]
    · rcases (show i = 0 ∨ i = 1 by omega) with rfl | rfl
      · exact came_ivals q1 he
      · exact came_ivals q2 he
    · rcases (show i = 0 ∨ i = 1 by omega) with rfl | rfl
      · rcases q1 with q | ⟨g, off, e, hg, _⟩
        · omega
        · exact ⟨g, off, by have : a1 = some ad := he; rw [this] at e; exact Option.some.inj e, hg⟩
      · rcases q2 with q | ⟨g, off, e, hg, _⟩
        · omega
        · exact ⟨g, off, by have : a2 = some ad := he; rw [this] at e; exact Option.some.inj e, hg⟩
    · rcases (show i = 0 ∨ i = 1 by omega) with rfl | rfl
      · rcases q1 with q | ⟨g, off, e, hg, _⟩
        · omega
        · have : a1 = none := he
          rw [this] at e
          cases e
      · rcases q2 with q | ⟨g, off, e, hg, _⟩
        · omega
        · have : a2 = none := he
          rw [this] at e
          cases e
    · rcases (show i = 0 ∨ i = 1 by omega) with rfl | rfl
      · show (firstJ f1 n1).length ≤ 400
        rw [firstJ_length]
        exact hm1
      · show (firstJ f2 n2).length ≤ 400
        rw [firstJ_length]
        exact hm2
  have hcat : catTo (fun i => if i = 0 then firstJ f1 n1 else firstJ f2 n2) 2 = firstJ f1 n1 ++ firstJ f2 n2 := rfl
  have hlen : (catTo (fun i => if i = 0 then firstJ f1 n1 else firstJ f2 n2) 2).length = n1 + n2 := by rw [hcat, List.length_append, firstJ_length, firstJ_length]
  refine (concat_two w.heap.size 2 _ _ _ W hT (by rw [hlen]; omega)).mono ?_
  rintro e w' ⟨a, c, rfl, hr, hb2⟩
  rw [hlen] at hr
  refine ⟨a, c, by rw [hlen], ?_, bnext hb hb2⟩
  rw [hcat] at hr
  exact came_cat hr
end Go.Proofs.YtbcnlggkoidmmaaGreatDoor
