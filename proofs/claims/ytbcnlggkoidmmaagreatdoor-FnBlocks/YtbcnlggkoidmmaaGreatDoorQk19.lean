/-
  What the program's function is to answer.
  The walk of the program's CodeKind.
  The walk of the program's takeThird: the lengths of the third code.
-/
import Derived.Test.YtbcnlggkoidmmaaGreatDoorRows
import Derived.Test.YtbcnlggkoidmmaaGreatDoorQk07
import Derived.Test.YtbcnlggkoidmmaaGreatDoorQk05
import Derived.Test.YtbcnlggkoidmmaaGreatDoorQk01
import Derived.Test.YtbcnlggkoidmmaaGreatDoorQk04
import Derived.Test.YtbcnlggkoidmmaaGreatDoorQk14
import Derived.Test.YtbcnlggkoidmmaaGreatDoorQk18
import Derived.Test.YtbcnlggkoidmmaaGreatDoorQk10
import Derived.WalkKit
import Derived.Below
import Derived.ProofKit
import Derived.WalkLawsBesides
import Derived.Lib.SmallJoins
namespace Go.Proofs.YtbcnlggkoidmmaaGreatDoor
open Go.RowKit Go.Joins CodeMath

/-- What the program's CodeKind answers. -/
def KindAnswer : Prop := ∀ (a : Option Addr) (n cap : Nat) (f : Nat → Int) (w : World), Came w a n f → n ≤ 1048576 → (∀ i, i < n → (Lit.int .i64 (f i)).wf = true) →
    Calls Tryz.prog 113 #[.slice a n cap] w fun e w' => ∃ k : Int, e = .returned (.int .i64 k) ∧ Kind f n k ∧ Below w.heap.size w w'

end Go.Proofs.YtbcnlggkoidmmaaGreatDoor

namespace Go.Proofs.YtbcnlggkoidmmaaGreatDoor
open Go.RowKit Go.Joins OutMath CodeMath

theorem ret_num {a b : Int} (h : a = b) : Ending.returned (.int .i64 a) = .returned (.int .i64 b) := by rw [h]

set_option maxHeartbeats 1600000 in
theorem implKind_yes (a : Option Addr) (n cap : Nat) (f : Nat → Int) (w : World) (hC : Came w a n f) (hm : n ≤ 288) (hok : OkLens f n) :
    Calls Tryz.prog 113 #[.slice a n cap] w fun e w' => e = .returned (.int .i64 (kindOf f n)) ∧ Below w.heap.size w w' := by
  have HC : Hid (Came w a n f) := hC
  have HO : Hid (OkLens f n) := hok
  have hr := (room_bd f n).2 hok
  have hr0 := (room_bd f n).1
  clear hC hok
  go_enter Tryz.func113, Tryz.ntmps113
  go_wp2_with fail
  refine (count_yes a n cap f _ HC.out hm HO.out).mono ?_
  rintro e w1 ⟨rfl, hb1⟩
  go_wp2_with fail
  refine (fullTo_any (cs f n) _ (fun s => by have := cs_bd f n s; omega)).mono ?_
  rintro e w2 ⟨rfl, hb2⟩
  rw [full_room f n HO.out]
  have hS : Six w2 w1.heap.size 224 (cs f n) := by
    show _ = _
    rw [hb2.block _ (by simp)]
    exact heap_alloc_new w1 _
  have hB : Below w.heap.size w w2 := bnext (bal hb1 _) hb2
  have k1 := hS.c
  have f1 := hS.f
  have hz := hS.lt
  clear hb1 hb2 hS
  by_cases q1 : cnt f n = 0
  · have E0 : ∀ u, (Op.equalIn 10000 224 (.agg #[.int .i64 (cs f n 0), .int .i64 (cs f n 1), .int .i64 (cs f n 2), .int .i64 (cs f n 3), .int .i64 (cs f n 4), .int .i64 (cs f n 5), .int .i64 (cs f n 6), .int .i64 (cs f n 7), .int .i64 (cs f n 8), .int .i64 (cs f n 9), .int .i64 (cs f n 10), .int .i64 (cs f n 11), .int .i64 (cs f n 12), .int .i64 (cs f n 13), .int .i64 (cs f n 14), .int .i64 (cs f n 15)]) (.agg #[.int .i64 0, .int .i64 0, .int .i64 0, .int .i64 0, .int .i64 0, .int .i64 0, .int .i64 0, .int .i64 0, .int .i64 0, .int .i64 0, .int .i64 0, .int .i64 0, .int .i64 0, .int .i64 0, .int .i64 0, .int .i64 0])).run Tryz.prog u = .ok true u := six_eq (cs f n) (fun _ => 0) true (by simpa using (cs_none HO.out).1 q1)
    have HK : Hid (kindOf f n = 1) := by show kindOf f n = 1; unfold kindOf; rw [if_pos q1]
    clear q1
    go_wp2_with fail
    go_ret
    exact ⟨ret_num HK.out.symm, hB⟩
  · have E0 : ∀ u, (Op.equalIn 10000 224 (.agg #[.int .i64 (cs f n 0), .int .i64 (cs f n 1), .int .i64 (cs f n 2), .int .i64 (cs f n 3), .int .i64 (cs f n 4), .int .i64 (cs f n 5), .int .i64 (cs f n 6), .int .i64 (cs f n 7), .int .i64 (cs f n 8), .int .i64 (cs f n 9), .int .i64 (cs f n 10), .int .i64 (cs f n 11), .int .i64 (cs f n 12), .int .i64 (cs f n 13), .int .i64 (cs f n 14), .int .i64 (cs f n 15)]) (.agg #[.int .i64 0, .int .i64 0, .int .i64 0, .int .i64 0, .int .i64 0, .int .i64 0, .int .i64 0, .int .i64 0, .int .i64 0, .int .i64 0, .int .i64 0, .int .i64 0, .int .i64 0, .int .i64 0, .int .i64 0, .int .i64 0])).run Tryz.prog u = .ok false u := six_eq (cs f n) (fun _ => 0) false (by
      refine ⟨fun h => absurd h (by simp), fun h => absurd ((cs_none HO.out).2 h) q1⟩)
    by_cases q2 : room f n = 32768
    · have d2 : (room f n == 32768) = true := by simpa using q2
      have HK : Hid (kindOf f n = 2) := by show kindOf f n = 2; unfold kindOf; rw [if_neg q1, if_pos q2]
      clear q1 q2
      go_wp2_with fail
      go_ret
      exact ⟨ret_num HK.out.symm, hB⟩
    · have d2 : (room f n == 32768) = false := by simpa using q2
      by_cases q3 : 32768 < room f n
      · have d3 : decide (32768 < room f n) = true := by simpa using q3
        have HK : Hid (kindOf f n = 5) := by show kindOf f n = 5; unfold kindOf; rw [if_neg q1, if_neg q2, if_pos q3]
        clear q1 q2 q3
        go_wp2_with fail
        go_ret
        exact ⟨ret_num HK.out.symm, hB⟩
      · have d3 : decide (32768 < room f n) = false := by simpa using q3
        by_cases q4 : cnt f n = 1 ∧ room f n = 16384
        · have E1 : ∀ u, (Op.equalIn 10000 224 (.agg #[.int .i64 (cs f n 0), .int .i64 (cs f n 1), .int .i64 (cs f n 2), .int .i64 (cs f n 3), .int .i64 (cs f n 4), .int .i64 (cs f n 5), .int .i64 (cs f n 6), .int .i64 (cs f n 7), .int .i64 (cs f n 8), .int .i64 (cs f n 9), .int .i64 (cs f n 10), .int .i64 (cs f n 11), .int .i64 (cs f n 12), .int .i64 (cs f n 13), .int .i64 (cs f n 14), .int .i64 (cs f n 15)]) (.agg #[.int .i64 0, .int .i64 1, .int .i64 0, .int .i64 0, .int .i64 0, .int .i64 0, .int .i64 0, .int .i64 0, .int .i64 0, .int .i64 0, .int .i64 0, .int .i64 0, .int .i64 0, .int .i64 0, .int .i64 0, .int .i64 0])).run Tryz.prog u = .ok true u := six_eq (cs f n) one1 true (by simpa using (cs_single HO.out).1 q4)
          have HK : Hid (kindOf f n = 3) := by show kindOf f n = 3; unfold kindOf; rw [if_neg q1, if_neg q2, if_neg q3, if_pos q4]
          clear q1 q2 q3 q4
          go_wp2_with fail
          go_ret
          exact ⟨ret_num HK.out.symm, hB⟩
        · have E1 : ∀ u, (Op.equalIn 10000 224 (.agg #[.int .i64 (cs f n 0), .int .i64 (cs f n 1), .int .i64 (cs f n 2), .int .i64 (cs f n 3), .int .i64 (cs f n 4), .int .i64 (cs f n 5), .int .i64 (cs f n 6), .int .i64 (cs f n 7), .int .i64 (cs f n 8), .int .i64 (cs f n 9), .int .i64 (cs f n 10), .int .i64 (cs f n 11), .int .i64 (cs f n 12), .int .i64 (cs f n 13), .int .i64 (cs f n 14), .int .i64 (cs f n 15)]) (.agg #[.int .i64 0, .int .i64 1, .int .i64 0, .int .i64 0, .int .i64 0, .int .i64 0, .int .i64 0, .int .i64 0, .int .i64 0, .int .i64 0, .int .i64 0, .int .i64 0, .int .i64 0, .int .i64 0, .int .i64 0, .int .i64 0])).run Tryz.prog u = .ok false u := six_eq (cs f n) one1 false (by
            refine ⟨fun h => absurd h (by simp), fun h => absurd ((cs_single HO.out).2 h) q4⟩)
          have HK : Hid (kindOf f n = 4) := by show kindOf f n = 4; unfold kindOf; rw [if_neg q1, if_neg q2, if_neg q3, if_neg q4]
          clear q1 q2 q3 q4
          go_wp2_with fail
          go_ret
          exact ⟨ret_num HK.out.symm, hB⟩

set_option maxHeartbeats 800000 in
theorem implKind_no (a : Option Addr) (n cap : Nat) (f : Nat → Int) (w : World) (hC : Came w a n f) (hn : n ≤ 1048576) (hf : ∀ i, i < n → (Lit.int .i64 (f i)).wf = true) (hb : ¬ (n ≤ 288 ∧ OkLens f n)) :
    Calls Tryz.prog 113 #[.slice a n cap] w fun e w' => e = .returned (.int .i64 0) ∧ Below w.heap.size w w' := by
  have HC : Hid (Came w a n f) := hC
  have HB : Hid (¬ (n ≤ 288 ∧ OkLens f n)) := hb
  have HF : Hid (∀ i, i < n → (Lit.int .i64 (f i)).wf = true) := hf
  clear hC hb hf
  go_enter Tryz.func113, Tryz.ntmps113
  go_wp2_with fail
  refine (count_no a n cap f _ HC.out hn HF.out HB.out).mono ?_
  rintro e w1 ⟨rfl, hb1⟩
  go_wp2_with fail
  refine (fullTo_any (fun _ => 0) _ (fun s => by omega)).mono ?_
  rintro e w2 ⟨rfl, hb2⟩
  have hB : Below w.heap.size w w2 := bnext (bal hb1 _) hb2
  clear hb1 hb2
  go_wp2_with fail
  go_ret
  exact ⟨rfl, hB⟩

theorem kind_answer : KindAnswer := by
  intro a n cap f w hC hn hf
  by_cases h : n ≤ 288 ∧ OkLens f n
  · refine (implKind_yes a n cap f w hC h.1 h.2).mono ?_
    rintro e w1 ⟨rfl, hb⟩
    exact ⟨_, rfl, .inr ⟨h.1, h.2, rfl⟩, hb⟩
  · refine (implKind_no a n cap f w hC hn hf h).mono ?_
    rintro e w1 ⟨rfl, hb⟩
    exact ⟨_, rfl, .inl ⟨rfl, h⟩, hb⟩

end Go.Proofs.YtbcnlggkoidmmaaGreatDoor

namespace Go.Proofs.YtbcnlggkoidmmaaGreatDoor
open Go.RowKit Go.Joins OutMath CodeMath TakeMath HitMath WayMath StepMath TokMath BookMath InfMath

/-- A new block is turned. -/
theorem Step.new {fb rb : Nat} {w w1 w2 : World} {vo vt vo' vt' : Value} {row : Option Nat} (h : Step fb rb w vo vt w1 vo' vt') (hg : w1.grownBy w2 row) (hr : ∀ k, row = some k → w.heap.size ≤ k) : Step fb rb w vo vt w2 vo' vt' :=
  ⟨hg.os.trans h.os, hg.tape.trans h.tape, hg.output.trans h.output, Nat.le_trans h.size hg.size, fun k hk => by
    obtain ⟨q1, q2⟩ := h.block k hk
    refine ⟨⟨Nat.lt_of_lt_of_le q1.1 hg.size, q1.2⟩, (hg.block k q1.1 (fun e => ?_)).trans q2⟩
    have := hr k e.symm
    have := hk.1
    omega⟩
/-- What takeThird leaves. -/
def ThirdPost (B : Nat) (w : World) (fb rb : Nat) (s : ByteArray) (p k : Nat) (O : List Int) (most : Nat) (Ty : List Int) (vo vt : Value) (e : Ending) (w' : World) : Prop :=
  (p + 3 * k ≤ 8 * s.size ∧ kindOf (thirdF s p k) 19 = 2 ∧ ∃ g, w.heap.size ≤ g ∧ e = .returned (.tuple #[.slice (some ⟨g, 0, none⟩) 19 19, .nilIface]) ∧ IOwn w' g g 19 19 (thirdF s p k) ∧ PS B w' fb rb s (p + 3 * k) O most Ty vo vt ∧ Step fb rb w vo vt w' vo vt) ∨
  (∃ c, (if p + 3 * k ≤ 8 * s.size then (if kindOf (thirdF s p k) 19 ≠ 2 then some 5 else none) else some 2) = some c ∧ e = .returned (.tuple #[.slice none 0 0, errV c]) ∧ Below B w w')
/-- What its ring has at hand. -/
def TrRing (B : Nat) (w : World) (fb rb : Nat) (s : ByteArray) (p : Nat) (O : List Int) (most : Nat) (Ty : List Int) (vo vt : Value) (g i : Nat) (F : Nat → Int) (w' : World) : Prop :=
  PS B w' fb rb s (p + 3 * i) O most Ty vo vt ∧ Step fb rb w vo vt w' vo vt ∧ IOwn w' g g 19 19 F ∧ (∀ j, j < 19 → F j = thirdF s p i j) ∧ (g ≠ fb ∧ g ≠ rb ∧ vo.ownBlock ≠ some g ∧ vt.ownBlock ≠ some g ∧ w.heap.size ≤ g) ∧ p + 3 * i ≤ 8 * s.size ∧ OrderG w'
section
variable (B : Nat) (w : World) (fb rb : Nat) (s : ByteArray) (p : Nat) (O : List Int) (most : Nat) (Ty : List Int) (vo vt : Value)
theorem third_lens (s : ByteArray) (p k : Nat) : OkLens (thirdF s p k) 19 := by
  intro i _
  unfold thirdF
  by_cases h : orderL.idxOf i < k
  · rw [if_pos h]
    have := num_bd s (p + 3 * orderL.idxOf i) 3
    rw [show p2 3 = 8 by decide +kernel] at this
    omega
  · rw [if_neg h]
    omega
set_option maxRecDepth 100000 in
set_option maxHeartbeats 3200000 in
theorem takeThird_any (h : PS B w fb rb s p O most Ty vo vt) (hs : s.size ≤ 12000) (hp : p ≤ 8 * s.size) (hG : OrderG w) (hGB : 0 < B) (k : Nat) (hk : k ≤ 19) :
    Calls Tryz.prog 152 #[.pointer (some ⟨fb, 0, none⟩), .int .i64 (k : Int)] w (ThirdPost B w fb rb s p k O most Ty vo vt) := by
  have HPS := hid_of h
  have hmk := make_ints w 19 (by omega)
  rw [show ((19 : Nat) : Int) = 19 from rfl] at hmk
  have H0 : Hid (TrRing B w fb rb s p O most Ty vo vt w.heap.size 0 (fun _ => 0) (w.alloc (.cells (madeCells #[Value.int .i64 0] 19) 3))) := by
    have hb := bstart w (.cells (madeCells #[Value.int .i64 0] 19) 3)
    refine ⟨h.called hb, Step.called hb, IOwn.made (base := w.heap.size) w 19 (by unfold maxLen; omega) (Nat.le_refl _), fun j _ => by rw [third_start], ⟨?_, ?_, fun e => ?_, fun e => ?_, Nat.le_refl _⟩, hp, hG.below (hb.mono h.2.2.2.2.2.2.2.2.2.2) hGB⟩
    · have := h.ltf
      omega
    · have := h.ltr
      omega
    · have := (World.ownsRow.lt h.2.2.1 _ e).2
      omega
    · have := (World.ownsRow.lt h.2.2.2.1 _ e).2
      omega
  clear h hG
  generalize w.alloc (.cells (madeCells #[Value.int .i64 0] 19) 3) = W1 at hmk H0
  go_enter Tryz.func152, Tryz.ntmps152
  go_wp2_with fail
  generalize hg3 : w.heap.size = g3 at H0
  clear hmk
  go_loopg [12] (k + 1) (fun gk v w' => ∃ (i : Nat) (F : Nat → Int), i ≤ k ∧ v = .int .i64 (i : Int) ∧ k - i ≤ gk ∧ Hid (TrRing B w fb rb s p O most Ty vo vt g3 i F w'))
  case atStart => exact ⟨0, _, Nat.zero_le _, rfl, by omega, H0⟩
  case round =>
    clear H0
    obtain ⟨i, F, hi, rfl, hgk, hR⟩ := hrel
    by_cases hik : i < k
    · have dj : decide ((i : Int) < (k : Int)) = true := decide_eq_true (by omega)
      have dj2 : decide (i < k) = true := decide_eq_true hik
      by_cases h3 : p + 3 * i + 3 ≤ 8 * s.size
      · have htk := take_yes B wr fb rb s (p + 3 * i) O most Ty vo vt hR.out.1 hs 3 (by omega) h3
        obtain ⟨oi, hoi⟩ : ∃ oi, oi = orderL.getD i 0 := ⟨_, rfl⟩
        have ho19 : oi < 19 := by rw [hoi]; exact order_small i (by omega)
        have hx : num s (p + 3 * i) 3 = num s (p + 3 * i) 3 := rfl
        have HNX : Hid (∀ w', PS B w' fb rb s (p + 3 * i + 3) O most Ty vo vt → wr.grownBy w' (some rb) → (OrderG w' ∧ IOwn w' g3 g3 19 19 F) ∧ TrRing B w fb rb s p O most Ty vo vt g3 (i + 1) (upd F oi (num s (p + 3 * i) 3)) (w'.setCell ⟨g3, oi, none⟩ (.int .i64 (num s (p + 3 * i) 3)))) := fun w' q1 q2 => by
          obtain ⟨t1, t2, t3, t4, ⟨t5, t6, t7, t8, t9⟩, t10, t11⟩ := hR.out
          have st := step_read (fb := fb) (vo := vo) (vt := vt) q2
          have og := t11.below (t1.below st) hGB
          have io := t3.grown q2 (fun e => t6 (by cases e; rfl))
          have hgs := grown_cell w' g3 oi (.int .i64 (num s (p + 3 * i) 3))
          have ps2 := q1.other hgs (fun k e => by cases e; exact ⟨t5, t6, t7, t8⟩)
          refine ⟨⟨og, io⟩, ⟨?_, (t2.trans st).new hgs (fun k e => by cases e; exact t9), io.set oi ho19 _, fun j hj => ?_, ⟨t5, t6, t7, t8, t9⟩, by omega, ?_⟩⟩
          · rw [show p + 3 * (i + 1) = p + 3 * i + 3 by omega]
            exact ps2
          · rw [← third_next s p i (by omega) j hj, ← hoi]
            unfold upd
            rw [t4 j hj]
          · refine og.below (B := B) ⟨rfl, rfl, rfl, hgs.size, fun k hk => hgs.block k ?_ ?_⟩ hGB
            · have := q1.2.2.2.2.2.2.2.2.2.2
              omega
            · intro e
              cases e
              have := HPS.out.2.2.2.2.2.2.2.2.2.2
              omega
        have HOI := hid_of hoi
        generalize num s (p + 3 * i) 3 = x at *
        clear hR hoi hx
        go_wp2_with fail
        refine htk.mono ?_
        clear htk
        rintro e w1 ⟨rfl, q1, q2⟩
        obtain ⟨⟨og, io⟩, hN⟩ := HNX.out w1 q1 q2
        have oc := og.2 i (by omega)
        rw [← HOI.out] at oc
        have ol := og.1
        have tc := io.cell oi ho19
        have tf := io.free oi ho19
        have tl := io.lt
        have HN := hid_of hN
        have j1 : (0 : Int) ≤ (i : Int) := by omega
        have j2 : (i : Int) < 19 := by omega
        have j3 : (0 : Int) ≤ (oi : Int) := by omega
        have j4 : (oi : Int) < 19 := by omega
        clear q1 q2 hN HNX og io HOI
        go_wp2_with fail
        go_roundg (k - (i + 1))
        case measure => omega
        case rel => exact ⟨i + 1, _, by omega, by go_num, Nat.le_refl _, HN⟩
      · have htk := take_no B wr fb rb s (p + 3 * i) O most Ty vo vt hR.out.1 hs hR.out.2.2.2.2.2.1 3 (by omega) h3
        go_wp2_with fail
        refine htk.mono ?_
        clear htk
        rintro e w1 ⟨rfl, q1, q2⟩
        have HP : Hid (ThirdPost B w fb rb s p k O most Ty vo vt (.returned (.tuple #[.slice none 0 0, errV 2])) w1) := .inr ⟨2, by rw [if_neg (by omega)], rfl, HPS.out.below (hR.out.2.1.trans (step_read q2))⟩
        clear hR q1 q2
        go_wp2_with fail
        go_ret2
        exact HP.out
    · obtain rfl : i = k := by omega
      have dj : decide ((i : Int) < (i : Int)) = false := decide_eq_false (by omega)
      obtain ⟨t1, t2, t3, t4, t5, t10, t11⟩ := hR.out
      have io : IOwn wr g3 g3 19 19 (thirdF s p i) := t3.congr t4
      have hkd := implKind_yes (some ⟨g3, 0, none⟩) 19 19 (thirdF s p i) wr io.sl.came (by omega) (third_lens s p i)
      have HIO := hid_of io
      have HT1 := hid_of t1
      have HT2 := hid_of t2
      clear hR t1 t2 t3 t4 t11 io
      by_cases hk2 : kindOf (thirdF s p i) 19 = 2
      · rw [hk2] at hkd
        go_wp2_with fail
        refine hkd.mono ?_
        clear hkd
        rintro e w1 ⟨rfl, q1⟩
        have HP : Hid (ThirdPost B w fb rb s p i O most Ty vo vt (.returned (.tuple #[.slice (some ⟨g3, 0, none⟩) 19 19, .nilIface])) w1) := .inl ⟨t10, hk2, g3, t5.2.2.2.2, rfl, HIO.out.called q1, HT1.out.called q1, HT2.out.trans (Step.called q1)⟩
        clear q1 HIO HT1 HT2
        go_wp2_with fail
        go_ret2
        exact HP.out
      · have dk : (kindOf (thirdF s p i) 19 != 2) = true := by simp [hk2]
        go_wp2_with fail
        refine hkd.mono ?_
        clear hkd
        rintro e w1 ⟨rfl, q1⟩
        have HP : Hid (ThirdPost B w fb rb s p i O most Ty vo vt (.returned (.tuple #[.slice none 0 0, errV 5])) w1) := .inr ⟨5, by rw [if_pos t10, if_pos hk2], rfl, HPS.out.below (HT2.out.trans (Step.called q1))⟩
        clear q1 HIO HT1 HT2 hk2
        generalize kindOf (thirdF s p i) 19 = kd at *
        go_wp2_with fail
        go_ret2
        exact HP.out
end
end Go.Proofs.YtbcnlggkoidmmaaGreatDoor
