/-
  The walks of the program's put and takePieces: the pieces of a block, one by one.
  The walk of the document's model: in which order the lengths of the third code come.
  Three numbers of bits, one behind the other; the codes of lengths, whatever they are.
-/
import Derived.Test.YtedbmhelmenknaaDoorPk19
import Derived.Test.YtedbmhelmenknaaDoorRows
import Derived.Test.YtedbmhelmenknaaDoorPk01
import Derived.Test.YtedbmhelmenknaaDoorPk02
import Derived.Test.YtedbmhelmenknaaDoorPk07
import Derived.Test.YtedbmhelmenknaaDoorPk18
import Derived.WalkKit
import Derived.ProofKit
import Derived.WalkLawsBesides
import Derived.OwnWalk
import Derived.Below
import Derived.Lib.SmallJoins
namespace Go.Proofs.YtedbmhelmenknaaDoor
open Go.RowKit Go.Joins OutMath CodeMath TakeMath HitMath WayMath StepMath TokMath BookMath InfMath

section
variable (B : Nat) (w : World) (fb rb : Nat) (s : ByteArray) (p : Nat) (O : List Int) (most : Nat) (Ty : List Int) (vo vt : Value)
/-- What put leaves. -/
def PutPost (B : Nat) (w : World) (fb rb : Nat) (s : ByteArray) (p : Nat) (O' : List Int) (most : Nat) (Ty : List Int) (vo vt : Value) (e : Ending) (w' : World) : Prop :=
  (O'.length ≤ most ∧ e = .returned .nilIface ∧ ∃ vo', PS B w' fb rb s p O' most Ty vo' vt ∧ Step fb rb w vo vt w' vo' vt) ∨ (¬ O'.length ≤ most ∧ e = .returned (errV 8) ∧ Step fb rb w vo vt w' vo vt)
set_option maxHeartbeats 800000 in
theorem put_done (h : PS B w fb rb s p O most Ty vo vt) (_hm : most ≤ 12000) (pc : Value) (O' : List Int) (_hl : O'.length ≤ 100000)
    (hw : Calls Tryd.prog 79 #[vo, pc] w fun e w' => ∃ v', e = .returned (.tuple #[v', .bool true]) ∧ OR w' B v' O' ∧ Moved w w' vo v') :
    Calls Tryd.prog 65 #[.pointer (some ⟨fb, 0, none⟩), pc] w (PutPost B w fb rb s p O' most Ty vo vt) := by
  have c1 := h.1.cells.2.1
  have hlf := h.ltf
  have HH := hid_of h
  clear h
  go_enter Tryd.func65, Tryd.ntmps65
  go_wp2_with fail
  refine hw.mono ?_
  clear hw
  rintro e w1 ⟨v', rfl, hO, hM⟩
  obtain ⟨k1, k2, k3⟩ := HH.out.made hO hM.1 hM.2
  have e2 := k1.cells.2.2.1
  have e1 := k1.cells.2.1
  have f1 := k1.free 1
  have hl1 := k1.lt
  have hst : Step fb rb w vo vt w1 vo vt := Step.one hM.1 (fun k e => .inr (.inr (.inl e)))
  obtain ⟨a, c, hv⟩ := hO.form
  subst hv
  by_cases hle : O'.length ≤ most
  · have d1 : decide ((most : Int) < (O'.length : Int)) = false := decide_eq_false (by omega)
    have d2 : decide (most < O'.length) = false := decide_eq_false (by omega)
    have HP : Hid (PutPost B w fb rb s p O' most Ty vo vt (.returned .nilIface) (w1.setCell ⟨fb, 1, none⟩ (.slice a O'.length c))) := .inl ⟨hle, rfl, _, k2, k3⟩
    clear HH hO hM k1 k2 k3 hst hle
    go_wp2_with fail
    go_ret
    exact HP.out
  · have d1 : decide ((most : Int) < (O'.length : Int)) = true := decide_eq_true (by omega)
    have d2 : decide (most < O'.length) = true := decide_eq_true (by omega)
    have HP : Hid (PutPost B w fb rb s p O' most Ty vo vt (.returned (errV 8)) w1) := .inr ⟨hle, rfl, hst⟩
    clear HH hO hM k1 k2 k3 hst hle
    go_wp2_with fail
    go_ret
    exact HP.out
theorem put_byte (h : PS B w fb rb s p O most Ty vo vt) (hm : most ≤ 12000) (hO : O.length ≤ most) (x : Int) :
    Calls Tryd.prog 65 #[.pointer (some ⟨fb, 0, none⟩), .iface 145 (.int .u8 x)] w (PutPost B w fb rb s p (O ++ [x]) most Ty vo vt) := by
  have hor := h.2.2.1
  obtain ⟨a, c, hv⟩ := hor.form
  subst hv
  exact put_done B w fb rb s p O most Ty _ vt h hm _ (O ++ [x]) (by simp; omega) (with_byte_own B a O.length c O x w hor (by omega) h.2.2.2.2.2.2.2.2.2.2)
theorem put_repeat (h : PS B w fb rb s p O most Ty vo vt) (hm : most ≤ 12000) (hO : O.length ≤ most) (T D : Nat) (hT : T ≤ 300) (hD : 1 ≤ D) (hD2 : D ≤ O.length) :
    Calls Tryd.prog 65 #[.pointer (some ⟨fb, 0, none⟩), .iface 147 (.agg #[.int .i64 (T : Int), .int .i64 (D : Int)])] w (PutPost B w fb rb s p (copyN D T O) most Ty vo vt) := by
  have hor := h.2.2.1
  obtain ⟨a, c, hv⟩ := hor.form
  subst hv
  have hw := with_repeat_own B a O.length c T D O w hor rfl (by omega) h.2.2.2.2.2.2.2.2.2.2 hT hD hD2
  have hl : (copyN D T O).length = O.length + T := by
    rw [copy_length]
  exact put_done B w fb rb s p O most Ty _ vt h hm _ (copyN D T O) (by omega) (hw.mono fun e w' ⟨a', c', q1, q2, q3⟩ => ⟨_, q1, q2, q3⟩)
set_option maxHeartbeats 800000 in
theorem put_far (h : PS B w fb rb s p O most Ty vo vt) (T D : Nat) (hD2 : O.length < D) :
    Calls Tryd.prog 65 #[.pointer (some ⟨fb, 0, none⟩), .iface 147 (.agg #[.int .i64 (T : Int), .int .i64 (D : Int)])] w fun e w' => e = .returned (errV 7) ∧ Step fb rb w vo vt w' vo vt := by
  have c1 := h.1.cells.2.1
  have hlf := h.ltf
  have hor := h.2.2.1
  obtain ⟨a, c, hv⟩ := hor.form
  subst hv
  have hw := with_far_own a O.length c (T : Int) (D : Int) w (by omega)
  clear h hor
  go_enter Tryd.func65, Tryd.ntmps65
  go_wp2_with fail
  refine hw.mono ?_
  clear hw
  rintro e w1 ⟨rfl, hB⟩
  have HS : Hid (Step fb rb w (.slice a O.length c) vt w1 (.slice a O.length c) vt) := Step.called hB
  clear hB
  go_wp2_with fail
  go_ret
  exact ⟨rfl, HS.out⟩
end
theorem take_mono {s : ByteArray} {p n : Nat} {x : Int} {p' : Nat} (h : takeE s p n = .ok (x, p')) : p' = p + n := by
  unfold takeE at h
  split at h
  · cases h
    rfl
  · cases h
theorem len_mono {s : ByteArray} {y p : Nat} {T : Int} {p2 : Nat} (h : lenE s y p = .ok (T, p2)) : p ≤ p2 := by
  unfold lenE at h
  split at h
  · cases h
  · cases e : takeE s p (lenBits y).1 with
    | error c =>
      rw [e] at h
      cases h
    | ok r =>
      obtain ⟨x, p'⟩ := r
      rw [e] at h
      cases h
      have := take_mono e
      omega
theorem sym_mono {s : ByteArray} {f : Nat → Int} {n p q p3 : Nat} (h : symE s f n p = .ok (q, p3)) : p < p3 := by
  rcases sym_cases f n s p with ⟨y, k, h1, _, _, _, h5⟩ | ⟨c, _, _, h5⟩
  · rw [h5] at h
    cases h
    omega
  · rw [h5] at h
    cases h
theorem dist_mono {s : ByteArray} {f : Nat → Int} {n p : Nat} {D : Int} {p4 : Nat} (h : distE s f n p = .ok (D, p4)) : p ≤ p4 := by
  unfold distE at h
  cases e : symE s f n p with
  | error c =>
    rw [e] at h
    cases h
  | ok r =>
    obtain ⟨q, p3⟩ := r
    rw [e] at h
    dsimp only at h
    have l1 := sym_mono e
    split at h
    · cases h
    · cases e2 : takeE s p3 (distBits q).1 with
      | error c =>
        rw [e2] at h
        cases h
      | ok r =>
        obtain ⟨x, p'⟩ := r
        rw [e2] at h
        cases h
        have := take_mono e2
        omega
/-- What the pieces of a block leave. -/
def BlkPost (B : Nat) (w : World) (fb rb : Nat) (s : ByteArray) (most : Nat) (Ty : List Int) (vo vt : Value) (res : Except Nat (List Int × Nat)) (e : Ending) (w' : World) : Prop :=
  (∃ O' p' vo', res = .ok (O', p') ∧ p' ≤ 8 * s.size ∧ O'.length ≤ most ∧ e = .returned .nilIface ∧ PS B w' fb rb s p' O' most Ty vo' vt ∧ Step fb rb w vo vt w' vo' vt) ∨
  (∃ c, res = .error c ∧ e = .returned (errV c) ∧ Below B w w')
/-- What the ring of takePieces has at hand. -/
def PcRing (B : Nat) (w : World) (fb rb : Nat) (s : ByteArray) (most : Nat) (Ty : List Int) (vo vt : Value) (S1 C1 b1 : Nat) (V1 : Nat → Value) (f1 : Nat → Int) (n1 S2 C2 b2 : Nat) (V2 : Nat → Value) (f2 : Nat → Int) (n2 : Nat) (res : Except Nat (List Int × Nat)) (m p : Nat) (O : List Int) (vo' : Value) (w' : World) : Prop :=
  PS B w' fb rb s p O most Ty vo' vt ∧ Step fb rb w vo vt w' vo' vt ∧ (Book w' S1 C1 b1 V1 f1 n1 ∧ Held w' fb rb vo' vt S1 C1) ∧ (Book w' S2 C2 b2 V2 f2 n2 ∧ Held w' fb rb vo' vt S2 C2) ∧ p ≤ 8 * s.size ∧ O.length ≤ most ∧ 8 * s.size + 1 ≤ m + p ∧ res = symbolsF s most f1 n1 f2 n2 m p O
section
variable (B : Nat) (w : World) (fb rb : Nat) (s : ByteArray) (p : Nat) (O : List Int) (most : Nat) (Ty : List Int) (vo vt : Value) (S1 C1 b1 : Nat) (V1 : Nat → Value) (f1 : Nat → Int) (n1 S2 C2 b2 : Nat) (V2 : Nat → Value) (f2 : Nat → Int) (n2 : Nat)
set_option maxRecDepth 100000 in
set_option maxHeartbeats 1600000 in
theorem takePieces_any (h : PS B w fb rb s p O most Ty vo vt) (hs : s.size ≤ 12000) (hp : p ≤ 8 * s.size) (hm : most ≤ 12000) (hO : O.length ≤ most) (hB1 : Book w S1 C1 b1 V1 f1 n1) (hH1 : Held w fb rb vo vt S1 C1) (hn1 : n1 ≤ 288) (hok1 : OkLens f1 n1) (hr1 : nx f1 n1 15 ≤ 32768) (hB2 : Book w S2 C2 b2 V2 f2 n2) (hH2 : Held w fb rb vo vt S2 C2) (hn2 : n2 ≤ 288) (hok2 : OkLens f2 n2) (hr2 : nx f2 n2 15 ≤ 32768) :
    Calls Tryd.prog 51 #[.pointer (some ⟨fb, 0, none⟩), .pointer (some ⟨b1, 0, none⟩), .pointer (some ⟨b2, 0, none⟩)] w (BlkPost B w fb rb s most Ty vo vt (symbolsF s most f1 n1 f2 n2 (8 * s.size + 1) p O)) := by
  obtain ⟨res, hres⟩ : ∃ res, res = symbolsF s most f1 n1 f2 n2 (8 * s.size + 1) p O := ⟨_, rfl⟩
  rw [← hres]
  have H0 : Hid (PcRing B w fb rb s most Ty vo vt S1 C1 b1 V1 f1 n1 S2 C2 b2 V2 f2 n2 res (8 * s.size + 1) p O vo w) := ⟨h, Step.refl w, ⟨hB1, hH1⟩, ⟨hB2, hH2⟩, hp, hO, by omega, hres⟩
  have HPS := hid_of h
  have HK1 := hid_of (And.intro hok1 hr1)
  have HK2 := hid_of (And.intro hok2 hr2)
  clear h hB1 hH1 hok1 hr1 hB2 hH2 hok2 hr2 hres hO hp
  go_enter Tryd.func51, Tryd.ntmps51
  go_wp2_with fail
  go_loopg [] (8 * s.size + 2) (fun gk w' => ∃ (m p : Nat) (O : List Int) (vo' : Value), m ≤ gk ∧ Hid (PcRing B w fb rb s most Ty vo vt S1 C1 b1 V1 f1 n1 S2 C2 b2 V2 f2 n2 res m p O vo' w'))
  case atStart => exact ⟨8 * s.size + 1, p, O, vo, by omega, H0⟩
  case round =>
    clear H0
    obtain ⟨m, p, O, vo1, hgk, hR⟩ := hrel
    obtain ⟨m1, rfl⟩ : ∃ m1, m = m1 + 1 := ⟨m - 1, by have := hR.out.2.2.2.2.1; have := hR.out.2.2.2.2.2.2.1; omega⟩
    have hsy := takeSymbol_any B wr fb rb s p O most Ty vo1 vt S1 C1 b1 V1 f1 n1 hR.out.1 hs hR.out.2.2.2.2.1 hR.out.2.2.1.1 hR.out.2.2.1.2 hn1 HK1.out.1 HK1.out.2
    go_wp2_with fail
    refine hsy.mono ?_
    clear hsy
    rintro e w1 ⟨hst, ⟨y, p1, hsE, hlt, hp1, hyn, rfl, hps⟩ | ⟨c, hsE, rfl⟩⟩
    · by_cases hy : y = 256
      · subst hy
        have HP : Hid (BlkPost B w fb rb s most Ty vo vt res (.returned .nilIface) w1) := .inl ⟨O, p1, vo1, hR.out.2.2.2.2.2.2.2.trans (syms_end hsE), hp1, hR.out.2.2.2.2.2.1, rfl, hps, hR.out.2.1.trans hst⟩
        clear hR hst hps
        go_wp2_with fail
        go_ret
        exact HP.out
      · have dy : ((y : Int) == 256) = false := by simp; omega
        have HST := hid_of hst
        have HPS1 := hid_of hps
        have HE := hid_of hsE
        clear hst hps hsE
        by_cases hyl : y < 256
        · have htp := takePiece_byte fb b2 w1 y hyl
          have hpb := put_byte B w1 fb rb s p1 O most Ty vo1 vt HPS1.out hm hR.out.2.2.2.2.2.1 (y : Int)
          go_wp2_with fail
          refine htp.mono ?_
          rintro e w2 ⟨rfl, rfl⟩
          clear htp
          go_wp2_with fail
          refine hpb.mono ?_
          clear hpb
          rintro e w3 (⟨hle, rfl, vo2, hps2, hst2⟩ | ⟨hle, rfl, hst2⟩)
          · have HN : Hid (PcRing B w fb rb s most Ty vo vt S1 C1 b1 V1 f1 n1 S2 C2 b2 V2 f2 n2 res m1 p1 (O ++ [(y : Int)]) vo2 w3) := by
              obtain ⟨q1, q2, ⟨q3, q4⟩, ⟨q5, q6⟩, q7, q8, q9, q10⟩ := hR.out
              have st := HST.out.trans hst2
              refine ⟨hps2, q2.trans st, ⟨q3.step q4 st, q4.step st⟩, ⟨q5.step q6 st, q6.step st⟩, hp1, hle, by omega, ?_⟩
              rw [q10, syms_byte HE.out hyl, if_neg (by rw [List.length_append, List.length_singleton] at hle; omega)]
            clear hR HST HPS1 hps2 hst2 HE hle
            go_wp2_with fail
            go_roundg m1
            case measure => omega
            case rel => exact ⟨m1, p1, _, vo2, Nat.le_refl _, HN⟩
          · have HP : Hid (BlkPost B w fb rb s most Ty vo vt res (.returned (errV 8)) w3) := by
              obtain ⟨q1, q2, _, _, q7, q8, q9, q10⟩ := hR.out
              refine .inr ⟨8, ?_, rfl, HPS.out.below (q2.trans (HST.out.trans hst2))⟩
              rw [q10, syms_byte HE.out hyl, if_pos (by rw [List.length_append, List.length_singleton] at hle; omega)]
            clear hR HST HPS1 hst2 HE hle
            go_wp2_with fail
            go_ret
            exact HP.out
        · have hRo := hR.out
          have htp := takePiece_far B w1 fb rb s p1 O most Ty vo1 vt S2 C2 b2 V2 f2 n2 HPS1.out hs hp1 (hRo.2.2.2.1.1.step hRo.2.2.2.1.2 HST.out) (hRo.2.2.2.1.2.step HST.out) hn2 HK2.out.1 HK2.out.2 y (by omega) (by omega)
          clear hRo HPS1
          go_wp2_with fail
          refine htp.mono ?_
          clear htp
          rintro e w2 ⟨hst2, ⟨T, D, p2, p4, hlE, hdE, hp4, hT, hD1, hD2, rfl, hps2⟩ | ⟨c, hcE, rfl⟩⟩
          · have HEQ : Hid (res = if (O.length : Int) < (D : Int) then .error 7 else if (most : Int) - O.length < (T : Int) then .error 8 else symbolsF s most f1 n1 f2 n2 m1 p4 (copyN D T O)) := by
              show res = _
              rw [hR.out.2.2.2.2.2.2.2, syms_piece HE.out (by omega), hlE]
              dsimp only
              rw [hdE]
              rfl
            have hpp : p1 ≤ p4 := by
              have l1 := len_mono hlE
              have l2 := dist_mono hdE
              omega
            have HST2 := hid_of (HST.out.trans hst2)
            have HPS2 := hid_of hps2
            clear hlE hdE hst2 hps2 HST HE
            by_cases hfar : O.length < D
            · have hpf := put_far B w2 fb rb s p4 O most Ty vo1 vt HPS2.out T D hfar
              have HE7 : Hid (res = .error 7) := HEQ.out.trans (if_pos (by omega))
              clear HEQ
              go_wp2_with fail
              refine hpf.mono ?_
              clear hpf
              rintro e w3 ⟨rfl, hst3⟩
              have HP : Hid (BlkPost B w fb rb s most Ty vo vt res (.returned (errV 7)) w3) := .inr ⟨7, HE7.out, rfl, HPS.out.below (hR.out.2.1.trans (HST2.out.trans hst3))⟩
              clear hR HST2 HPS2 hst3 HE7
              go_wp2_with fail
              go_ret
              exact HP.out
            · have hpr := put_repeat B w2 fb rb s p4 O most Ty vo1 vt HPS2.out hm hR.out.2.2.2.2.2.1 T D hT hD1 (by omega)
              have hcl : (copyN D T O).length = O.length + T := copy_length D T O
              go_wp2_with fail
              refine hpr.mono ?_
              clear hpr
              rintro e w3 (⟨hle, rfl, vo2, hps3, hst3⟩ | ⟨hle, rfl, hst3⟩)
              · have HN : Hid (PcRing B w fb rb s most Ty vo vt S1 C1 b1 V1 f1 n1 S2 C2 b2 V2 f2 n2 res m1 p4 (copyN D T O) vo2 w3) := by
                  obtain ⟨q1, q2, ⟨q3, q4⟩, ⟨q5, q6⟩, q7, q8, q9, q10⟩ := hR.out
                  have st := HST2.out.trans hst3
                  refine ⟨hps3, q2.trans st, ⟨q3.step q4 st, q4.step st⟩, ⟨q5.step q6 st, q6.step st⟩, hp4, hle, by omega, ?_⟩
                  rw [HEQ.out, if_neg (by omega), if_neg (by omega)]
                clear hR HST2 HPS2 hps3 hst3 HEQ hle hcl
                go_wp2_with fail
                go_roundg m1
                case measure => omega
                case rel => exact ⟨m1, p4, _, vo2, Nat.le_refl _, HN⟩
              · have HP : Hid (BlkPost B w fb rb s most Ty vo vt res (.returned (errV 8)) w3) := by
                  obtain ⟨q1, q2, _, _, q7, q8, q9, q10⟩ := hR.out
                  refine .inr ⟨8, ?_, rfl, HPS.out.below (q2.trans (HST2.out.trans hst3))⟩
                  rw [HEQ.out, if_neg (by omega), if_pos (by omega)]
                clear hR HST2 HPS2 hst3 HEQ hle hcl
                go_wp2_with fail
                go_ret
                exact HP.out
          · have HP : Hid (BlkPost B w fb rb s most Ty vo vt res (.returned (errV c)) w2) := by
              refine .inr ⟨c, ?_, rfl, HPS.out.below (hR.out.2.1.trans (HST.out.trans hst2))⟩
              rw [hR.out.2.2.2.2.2.2.2, syms_piece HE.out (by omega)]
              rcases hcE with q | ⟨T, p2, q1, q2⟩
              · rw [q]
              · rw [q1]
                dsimp only
                rw [q2]
            clear hR HST hst2 HE hcE
            go_wp2_with fail
            go_ret
            exact HP.out
    · have HP : Hid (BlkPost B w fb rb s most Ty vo vt res (.returned (errV c)) w1) := .inr ⟨c, hR.out.2.2.2.2.2.2.2.trans (syms_err hsE), rfl, HPS.out.below (hR.out.2.1.trans hst)⟩
      clear hR hst
      go_wp2_with fail
      go_ret
      exact HP.out
end
end Go.Proofs.YtedbmhelmenknaaDoor

namespace Go.Proofs.YtedbmhelmenknaaDoor
open Go.RowKit Go.Joins InfMath

theorem order_cells (w : World) : ∀ i, i < 19 → (w.alloc (.cells #[.int .i64 16, .int .i64 17, .int .i64 18, .int .i64 0, .int .i64 8, .int .i64 7, .int .i64 9, .int .i64 6, .int .i64 10, .int .i64 5, .int .i64 11, .int .i64 4, .int .i64 12, .int .i64 3, .int .i64 13, .int .i64 2, .int .i64 14, .int .i64 1, .int .i64 15] 3)).cell? ⟨w.heap.size, i, none⟩ = some (.int .i64 ((orderL.getD i 0 : Nat) : Int)) := by
  intro i hi
  rw [cell_of_block (heap_alloc_new w _) i]
  have key : ∀ i, i < 19 → (#[Value.int .i64 16, .int .i64 17, .int .i64 18, .int .i64 0, .int .i64 8, .int .i64 7, .int .i64 9, .int .i64 6, .int .i64 10, .int .i64 5, .int .i64 11, .int .i64 4, .int .i64 12, .int .i64 3, .int .i64 13, .int .i64 2, .int .i64 14, .int .i64 1, .int .i64 15] : Array Value)[i]? = some (.int .i64 ((orderL.getD i 0 : Nat) : Int)) := by
    intro i hi
    match i, hi with
    | 0, _ => rfl
    | 1, _ => rfl
    | 2, _ => rfl
    | 3, _ => rfl
    | 4, _ => rfl
    | 5, _ => rfl
    | 6, _ => rfl
    | 7, _ => rfl
    | 8, _ => rfl
    | 9, _ => rfl
    | 10, _ => rfl
    | 11, _ => rfl
    | 12, _ => rfl
    | 13, _ => rfl
    | 14, _ => rfl
    | 15, _ => rfl
    | 16, _ => rfl
    | 17, _ => rfl
    | 18, _ => rfl
    | k + 19, h => exact absurd h (by omega)
  exact key i hi

set_option maxHeartbeats 800000 in
theorem specOrder (w : World) :
    Calls Tryd.prog 32 #[] w fun e w' => e = .returned (.slice (some ⟨w.heap.size, 0, none⟩) 19 19) ∧ w.heap.size < w'.heap.size ∧ Below w.heap.size w w' ∧ ∀ i, i < 19 → w'.cell? ⟨w.heap.size, i, none⟩ = some (.int .i64 ((orderL.getD i 0 : Nat) : Int)) := by
  have HZ := hid_of (order_cells w)
  go_enter Tryd.func32, Tryd.ntmps32
  go_wp2_with fail
  go_ret
  exact ⟨rfl, by simp, bstart _ _, HZ.out⟩

end Go.Proofs.YtedbmhelmenknaaDoor

namespace Go.Proofs.YtedbmhelmenknaaDoor
open Go.RowKit Go.Joins OutMath CodeMath TakeMath InfMath

theorem bitsR_small (s : ByteArray) (p c n : Nat) (hp : p ≤ 8 * s.size) : 0 ≤ (bitsR s p c n).1 ∧ (bitsR s p c n).1 < p2 n ∧ (bitsR s p c n).2.1 ≤ 8 * s.size ∧ p ≤ (bitsR s p c n).2.1 := by
  have h := num_bd s p n
  have h1 := p2_pos n
  unfold bitsR
  by_cases hc : c = 0
  · subst hc
    rw [if_neg (fun h => h rfl)]
    by_cases hb : p + n ≤ 8 * s.size
    · rw [if_pos hb]
      exact ⟨h.1, h.2, hb, by show p ≤ p + n; omega⟩
    · rw [if_neg hb]
      exact ⟨Int.le_refl _, by show (0 : Int) < p2 n; omega, hp, Nat.le_refl _⟩
  · rw [if_pos hc]
    exact ⟨Int.le_refl _, by show (0 : Int) < p2 n; omega, hp, Nat.le_refl _⟩
theorem three_bits (s : ByteArray) (p : Nat) : (p + 14 ≤ 8 * s.size ∧ bitsR s p 0 5 = (num s p 5, p + 5, 0) ∧ bitsR s (p + 5) 0 5 = (num s (p + 5) 5, p + 10, 0) ∧ bitsR s (p + 10) 0 4 = (num s (p + 10) 4, p + 14, 0)) ∨
    (¬ p + 14 ≤ 8 * s.size ∧ (bitsR s (bitsR s (bitsR s p 0 5).2.1 (bitsR s p 0 5).2.2 5).2.1 (bitsR s (bitsR s p 0 5).2.1 (bitsR s p 0 5).2.2 5).2.2 4).2.2 = 2) := by
  by_cases h : p + 14 ≤ 8 * s.size
  · exact .inl ⟨h, bitsR_ok (by omega), bitsR_ok (by omega), bitsR_ok (by omega)⟩
  · refine .inr ⟨h, ?_⟩
    by_cases h5 : p + 5 ≤ 8 * s.size
    · rw [bitsR_ok h5]
      dsimp only
      by_cases h10 : p + 5 + 5 ≤ 8 * s.size
      · rw [bitsR_ok h10]
        dsimp only
        rw [bitsR_end (by omega)]
      · rw [bitsR_end h10]
        dsimp only
        rw [bitsR_bad (by decide)]
    · rw [bitsR_end h5]
      dsimp only
      rw [bitsR_bad (s := s) (p := p) (c := 2) (n := 5) (by decide)]
      dsimp only
      rw [bitsR_bad (by decide)]
theorem specCodes_some (a : Option Addr) (n cap : Nat) (f : Nat → Int) (w : World) (hC : Came w a n f) (hn : n ≤ 1048576) :
    Calls Tryd.prog 26 #[.slice a n cap] w fun e w' => ∃ m x, e = .returned (.tuple #[.slice (some ⟨w.heap.size, 0, none⟩) m m, .bool x]) ∧ Below w.heap.size w w' ∧ w.heap.size < w'.heap.size ∧ (Coded f n → m = n ∧ IOwn w' w.heap.size w.heap.size n n (codeOf f n)) := by
  by_cases h : Coded f n
  · refine (specCodes_good a n cap f w hC h).mono ?_
    rintro e w' ⟨rfl, h1, h2⟩
    exact ⟨n, true, rfl, h2, h1.lt, fun _ => ⟨rfl, h1⟩⟩
  · refine (specCodes_bad a n cap f w hC hn h).mono ?_
    rintro e w' ⟨rfl, h1, h2⟩
    exact ⟨0, false, rfl, h2, h1, fun q => absurd q h⟩

end Go.Proofs.YtedbmhelmenknaaDoor
