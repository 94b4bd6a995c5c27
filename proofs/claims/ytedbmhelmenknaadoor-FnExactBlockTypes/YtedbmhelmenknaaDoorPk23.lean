/-
  The walk of the program's takeThird: the lengths of the third code.
  The walks of the document's model of the way back from Runs.
-/
import Derived.Test.YtedbmhelmenknaaDoorPk20
import Derived.Test.YtedbmhelmenknaaDoorPk21
import Derived.Test.YtedbmhelmenknaaDoorPk22
import Derived.Test.YtedbmhelmenknaaDoorRows
import Derived.Test.YtedbmhelmenknaaDoorPk01
import Derived.Test.YtedbmhelmenknaaDoorPk02
import Derived.Test.YtedbmhelmenknaaDoorPk03
import Derived.Test.YtedbmhelmenknaaDoorPk04
import Derived.WalkKit
import Derived.ProofKit
import Derived.WalkLawsBesides
import Derived.Deep.LoopGhost
import Derived.OwnWalk
import Derived.Deep.AppendLies
import Derived.Maps.AppendAt
import Derived.Laws.AppendOwnNone
import Derived.Lib.SmallJoins
namespace Go.Proofs.YtedbmhelmenknaaDoor
open Go.RowKit Go.Joins OutMath CodeMath TakeMath HitMath WayMath StepMath TokMath BookMath InfMath

/-- The order of the third code's lengths lies in the program's table. -/
def OrderG (w : World) : Prop := 1 < w.heap.size ∧ ∀ i, i < 19 → w.cell? ⟨1, i, none⟩ = some (.int .i64 ((orderL.getD i 0 : Nat) : Int))
theorem OrderG.below {B : Nat} {w w' : World} (h : OrderG w) (hb : Below B w w') (hB : 1 < B) : OrderG w' :=
  ⟨Nat.lt_of_lt_of_le h.1 hb.size, fun i hi => (World.cell?_of_block (a := ⟨1, i, none⟩) (hb.block _ hB)).trans (h.2 i hi)⟩
/-- A new block is turned. -/
theorem Step.new {fb rb : Nat} {w w1 w2 : World} {vo vt vo' vt' : Value} {row : Option Nat} (h : Step fb rb w vo vt w1 vo' vt') (hg : w1.grownBy w2 row) (hr : ∀ k, row = some k → w.heap.size ≤ k) : Step fb rb w vo vt w2 vo' vt' :=
  ⟨hg.os.trans h.os, hg.tape.trans h.tape, hg.output.trans h.output, Nat.le_trans h.size hg.size, fun k hk => by
    obtain ⟨q1, q2⟩ := h.block k hk
    refine ⟨⟨Nat.lt_of_lt_of_le q1.1 hg.size, q1.2⟩, (hg.block k q1.1 (fun e => ?_)).trans q2⟩
    have := hr k e.symm
    have := hk.1
    omega⟩
/-- What takeThird leaves. -/
def ThirdPost (B : Nat) (w : World) (fb rb : Nat) (s : ByteArray) (p k : Nat) (O : List Int) (most : Nat) (Ty : List Int) (vo vt : Value) (e : Ending) (w' : World) : Prop :=
  (p + 3 * k ≤ 8 * s.size ∧ kindOf (thirdF s p k) 19 = 2 ∧ ∃ g, w.heap.size ≤ g ∧ e = .returned (.tuple #[.slice (some ⟨g, 0, none⟩) 19 19, .nilIface]) ∧ IOwn w' g g 19 19 (thirdF s p k) ∧ PS B w' fb rb s (p + 3 * k) O most Ty vo vt ∧ Step fb rb w vo vt w' vo vt) ∨
  (∃ c, (if p + 3 * k ≤ 8 * s.size then (if kindOf (thirdF s p k) 19 ≠ 2 then some 5 else none) else some 2) = some c ∧ e = .returned (.tuple #[.slice none 0 0, errV c]) ∧ Below B w w')
/-- What its ring has at hand. -/
def TrRing (B : Nat) (w : World) (fb rb : Nat) (s : ByteArray) (p : Nat) (O : List Int) (most : Nat) (Ty : List Int) (vo vt : Value) (g i : Nat) (F : Nat → Int) (w' : World) : Prop :=
  PS B w' fb rb s (p + 3 * i) O most Ty vo vt ∧ Step fb rb w vo vt w' vo vt ∧ IOwn w' g g 19 19 F ∧ (∀ j, j < 19 → F j = thirdF s p i j) ∧ (g ≠ fb ∧ g ≠ rb ∧ vo.ownBlock ≠ some g ∧ vt.ownBlock ≠ some g ∧ w.heap.size ≤ g) ∧ p + 3 * i ≤ 8 * s.size ∧ OrderG w'
section
variable (B : Nat) (w : World) (fb rb : Nat) (s : ByteArray) (p : Nat) (O : List Int) (most : Nat) (Ty : List Int) (vo vt : Value)
theorem third_lens (s : ByteArray) (p k : Nat) : OkLens (thirdF s p k) 19 := by
  intro i _
  unfold thirdF
  by_cases h : orderL.idxOf i < k
  · rw [if_pos h]
    have := num_bd s (p + 3 * orderL.idxOf i) 3
    rw [show p2 3 = 8 by decide +kernel] at this
    omega
  · rw [if_neg h]
    omega
set_option maxRecDepth 100000 in
set_option maxHeartbeats 3200000 in
theorem takeThird_any (h : PS B w fb rb s p O most Ty vo vt) (hs : s.size ≤ 12000) (hp : p ≤ 8 * s.size) (hG : OrderG w) (hGB : 1 < B) (k : Nat) (hk : k ≤ 19) :
    Calls Tryd.prog 53 #[.pointer (some ⟨fb, 0, none⟩), .int .i64 (k : Int)] w (ThirdPost B w fb rb s p k O most Ty vo vt) := by
  have HPS := hid_of h
  have hmk := make_ints w 19 (by omega)
  rw [show ((19 : Nat) : Int) = 19 from rfl] at hmk
  have H0 : Hid (TrRing B w fb rb s p O most Ty vo vt w.heap.size 0 (fun _ => 0) (w.alloc (.cells (madeCells #[Value.int .i64 0] 19) 3))) := by
    have hb := bstart w (.cells (madeCells #[Value.int .i64 0] 19) 3)
    refine ⟨h.called hb, Step.called hb, IOwn.made (base := w.heap.size) w 19 (by unfold maxLen; omega) (Nat.le_refl _), fun j _ => by rw [third_start], ⟨?_, ?_, fun e => ?_, fun e => ?_, Nat.le_refl _⟩, hp, hG.below (hb.mono h.2.2.2.2.2.2.2.2.2.2) hGB⟩
    · have := h.ltf
      omega
    · have := h.ltr
      omega
    · have := (World.ownsRow.lt h.2.2.1 _ e).2
      omega
    · have := (World.ownsRow.lt h.2.2.2.1 _ e).2
      omega
  clear h hG
  generalize w.alloc (.cells (madeCells #[Value.int .i64 0] 19) 3) = W1 at hmk H0
  go_enter Tryd.func53, Tryd.ntmps53
  go_wp2_with fail
  generalize hg3 : w.heap.size = g3 at H0
  clear hmk
  go_loopg [12] (k + 1) (fun gk v w' => ∃ (i : Nat) (F : Nat → Int), i ≤ k ∧ v = .int .i64 (i : Int) ∧ k - i ≤ gk ∧ Hid (TrRing B w fb rb s p O most Ty vo vt g3 i F w'))
  case atStart => exact ⟨0, _, Nat.zero_le _, rfl, by omega, H0⟩
  case round =>
    clear H0
    obtain ⟨i, F, hi, rfl, hgk, hR⟩ := hrel
    by_cases hik : i < k
    · have dj : decide ((i : Int) < (k : Int)) = true := decide_eq_true (by omega)
      have dj2 : decide (i < k) = true := decide_eq_true hik
      by_cases h3 : p + 3 * i + 3 ≤ 8 * s.size
      · have htk := take_yes B wr fb rb s (p + 3 * i) O most Ty vo vt hR.out.1 hs 3 (by omega) h3
        obtain ⟨oi, hoi⟩ : ∃ oi, oi = orderL.getD i 0 := ⟨_, rfl⟩
        have ho19 : oi < 19 := by rw [hoi]; exact order_small i (by omega)
        have hx : num s (p + 3 * i) 3 = num s (p + 3 * i) 3 := rfl
        have HNX : Hid (∀ w', PS B w' fb rb s (p + 3 * i + 3) O most Ty vo vt → wr.grownBy w' (some rb) → (OrderG w' ∧ IOwn w' g3 g3 19 19 F) ∧ TrRing B w fb rb s p O most Ty vo vt g3 (i + 1) (upd F oi (num s (p + 3 * i) 3)) (w'.setCell ⟨g3, oi, none⟩ (.int .i64 (num s (p + 3 * i) 3)))) := fun w' q1 q2 => by
          obtain ⟨t1, t2, t3, t4, ⟨t5, t6, t7, t8, t9⟩, t10, t11⟩ := hR.out
          have st := step_read (fb := fb) (vo := vo) (vt := vt) q2
          have og := t11.below (t1.below st) hGB
          have io := t3.grown q2 (fun e => t6 (by cases e; rfl))
          have hgs := grown_cell w' g3 oi (.int .i64 (num s (p + 3 * i) 3))
          have ps2 := q1.other hgs (fun k e => by cases e; exact ⟨t5, t6, t7, t8⟩)
          refine ⟨⟨og, io⟩, ⟨?_, (t2.trans st).new hgs (fun k e => by cases e; exact t9), io.set oi ho19 _, fun j hj => ?_, ⟨t5, t6, t7, t8, t9⟩, by omega, ?_⟩⟩
          · rw [show p + 3 * (i + 1) = p + 3 * i + 3 by omega]
            exact ps2
          · rw [← third_next s p i (by omega) j hj, ← hoi]
            unfold upd
            rw [t4 j hj]
          · refine og.below (B := B) ⟨rfl, rfl, rfl, hgs.size, fun k hk => hgs.block k ?_ ?_⟩ hGB
            · have := q1.2.2.2.2.2.2.2.2.2.2
              omega
            · intro e
              cases e
              have := HPS.out.2.2.2.2.2.2.2.2.2.2
              omega
        have HOI := hid_of hoi
        generalize num s (p + 3 * i) 3 = x at *
        clear hR hoi hx
        go_wp2_with fail
        refine htk.mono ?_
        clear htk
        rintro e w1 ⟨rfl, q1, q2⟩
        obtain ⟨⟨og, io⟩, hN⟩ := HNX.out w1 q1 q2
        have oc := og.2 i (by omega)
        rw [← HOI.out] at oc
        have ol := og.1
        have tc := io.cell oi ho19
        have tf := io.free oi ho19
        have tl := io.lt
        have HN := hid_of hN
        have j1 : (0 : Int) ≤ (i : Int) := by omega
        have j2 : (i : Int) < 19 := by omega
        have j3 : (0 : Int) ≤ (oi : Int) := by omega
        have j4 : (oi : Int) < 19 := by omega
        clear q1 q2 hN HNX og io HOI
        go_wp2_with fail
        go_roundg (k - (i + 1))
        case measure => omega
        case rel => exact ⟨i + 1, _, by omega, by go_num, Nat.le_refl _, HN⟩
      · have htk := take_no B wr fb rb s (p + 3 * i) O most Ty vo vt hR.out.1 hs hR.out.2.2.2.2.2.1 3 (by omega) h3
        go_wp2_with fail
        refine htk.mono ?_
        clear htk
        rintro e w1 ⟨rfl, q1, q2⟩
        have HP : Hid (ThirdPost B w fb rb s p k O most Ty vo vt (.returned (.tuple #[.slice none 0 0, errV 2])) w1) := .inr ⟨2, by rw [if_neg (by omega)], rfl, HPS.out.below (hR.out.2.1.trans (step_read q2))⟩
        clear hR q1 q2
        go_wp2_with fail
        go_ret2
        exact HP.out
    · obtain rfl : i = k := by omega
      have dj : decide ((i : Int) < (i : Int)) = false := decide_eq_false (by omega)
      obtain ⟨t1, t2, t3, t4, t5, t10, t11⟩ := hR.out
      have io : IOwn wr g3 g3 19 19 (thirdF s p i) := t3.congr t4
      have hkd := implKind_yes (some ⟨g3, 0, none⟩) 19 19 (thirdF s p i) wr io.sl.came (by omega) (third_lens s p i)
      have HIO := hid_of io
      have HT1 := hid_of t1
      have HT2 := hid_of t2
      clear hR t1 t2 t3 t4 t11 io
      by_cases hk2 : kindOf (thirdF s p i) 19 = 2
      · rw [hk2] at hkd
        go_wp2_with fail
        refine hkd.mono ?_
        clear hkd
        rintro e w1 ⟨rfl, q1⟩
        have HP : Hid (ThirdPost B w fb rb s p i O most Ty vo vt (.returned (.tuple #[.slice (some ⟨g3, 0, none⟩) 19 19, .nilIface])) w1) := .inl ⟨t10, hk2, g3, t5.2.2.2.2, rfl, HIO.out.called q1, HT1.out.called q1, HT2.out.trans (Step.called q1)⟩
        clear q1 HIO HT1 HT2
        go_wp2_with fail
        go_ret2
        exact HP.out
      · have dk : (kindOf (thirdF s p i) 19 != 2) = true := by simp [hk2]
        go_wp2_with fail
        refine hkd.mono ?_
        clear hkd
        rintro e w1 ⟨rfl, q1⟩
        have HP : Hid (ThirdPost B w fb rb s p i O most Ty vo vt (.returned (.tuple #[.slice none 0 0, errV 5])) w1) := .inr ⟨5, by rw [if_pos t10, if_pos hk2], rfl, HPS.out.below (HT2.out.trans (Step.called q1))⟩
        clear q1 HIO HT1 HT2 hk2
        generalize kindOf (thirdF s p i) 19 = kd at *
        go_wp2_with fail
        go_ret2
        exact HP.out
end
end Go.Proofs.YtedbmhelmenknaaDoor

namespace Go.Proofs.YtedbmhelmenknaaDoor
open Go.RowKit Go.Joins RunsMath

/-- What RunsBack answers. -/
def BackPost (w : World) (res : Option (List Int)) (e : Ending) (w' : World) : Prop :=
  Below w.heap.size w w' ∧ match res with
  | some O => ∃ v, e = .returned (.tuple #[v, .bool true]) ∧ NumRow w' w.heap.size v O
  | none => ∃ g, e = .returned (.tuple #[.slice (some ⟨g, 0, none⟩) 0 0, .bool false]) ∧ g < w'.heap.size
/-- What is asked back. -/
def backOf (L : List (Int × Int)) (z : Int) : Option (List Int) := if 0 ≤ z ∧ z ≤ 320 then back z.toNat [] L else none
theorem back_none {z : Nat} {O : List Int} {r : Int × Int} {R : List (Int × Int)} (h : tell O r = none) : back z O (r :: R) = none := by
  unfold back
  rw [h]
theorem back_over {z : Nat} {O more : List Int} {r : Int × Int} {R : List (Int × Int)} (h : tell O r = some more) (hl : ¬ O.length + more.length ≤ z) : back z O (r :: R) = none := by
  unfold back
  rw [h]
  show (if O.length + more.length ≤ z then back z (O ++ more) R else none) = none
  rw [if_neg hl]
theorem back_on {z : Nat} {O more : List Int} {r : Int × Int} {R : List (Int × Int)} (h : tell O r = some more) (hl : O.length + more.length ≤ z) : back z O (r :: R) = back z (O ++ more) R := by
  conv => lhs; unfold back
  rw [h]
  show (if O.length + more.length ≤ z then back z (O ++ more) R else none) = _
  rw [if_pos hl]
theorem drop_here {L : List (Int × Int)} {i : Nat} (h : i < L.length) : L.drop i = L.getD i (0, 0) :: L.drop (i + 1) := by
  rw [List.drop_eq_getElem_cons h, List.getD_eq_getElem?_getD, List.getElem?_eq_getElem h]
  rfl
/-- What the ring of the model's RunsBack has at hand. -/
def BakSt (w w' : World) (z : Nat) (L R : List (Int × Int)) (v : Value) (O : List Int) : Prop := NumRow w' w.heap.size v O ∧ Below w.heap.size w w' ∧ back z O R = back z [] L ∧ O.length ≤ z

end Go.Proofs.YtedbmhelmenknaaDoor
