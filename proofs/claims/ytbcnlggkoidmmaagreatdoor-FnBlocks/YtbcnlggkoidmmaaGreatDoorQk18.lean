/-
  The walks of the program's put and takePieces: the pieces of a block, one by one.
  The third code's lengths beside an unpacking under way.
  A list of numbers, made.
  Arrays of sixteen numbers. Nothing here speaks of the program.
  The walks of the program's counts of lengths.
  The walk of what the program's counts of lengths are full to.
  Arrays of sixteen numbers, compared as values.
-/
import Derived.Test.YtbcnlggkoidmmaaGreatDoorQk17
import Derived.Test.YtbcnlggkoidmmaaGreatDoorRows
import Derived.Test.YtbcnlggkoidmmaaGreatDoorQk01
import Derived.Test.YtbcnlggkoidmmaaGreatDoorQk07
import Derived.Test.YtbcnlggkoidmmaaGreatDoorQk06
import Derived.Test.YtbcnlggkoidmmaaGreatDoorQk04
import Derived.Test.YtbcnlggkoidmmaaGreatDoorQk05
import Derived.Test.YtbcnlggkoidmmaaGreatDoorQk14
import Derived.WalkKit
import Derived.ProofKit
import Derived.WalkLawsBesides
import Derived.OwnWalk
import Derived.Below
import Derived.Lib.SmallJoins
import Derived.Laws.MakeOwn
import Derived.Deep.QuietTactic
import Derived.RegionTactic
import Derived.ChangeKeysEq
namespace Go.Proofs.YtbcnlggkoidmmaaGreatDoor
open Go.RowKit Go.Joins OutMath CodeMath TakeMath HitMath WayMath StepMath TokMath BookMath InfMath

section
variable (B : Nat) (w : World) (fb rb : Nat) (s : ByteArray) (p : Nat) (O : List Int) (most : Nat) (Ty : List Int) (vo vt : Value)
/-- What put leaves. -/
def PutPost (B : Nat) (w : World) (fb rb : Nat) (s : ByteArray) (p : Nat) (O' : List Int) (most : Nat) (Ty : List Int) (vo vt : Value) (e : Ending) (w' : World) : Prop :=
  (O'.length ≤ most ∧ e = .returned .nilIface ∧ ∃ vo', PS B w' fb rb s p O' most Ty vo' vt ∧ Step fb rb w vo vt w' vo' vt) ∨ (¬ O'.length ≤ most ∧ e = .returned (errV 8) ∧ Step fb rb w vo vt w' vo vt)
set_option maxHeartbeats 800000 in
theorem put_done (h : PS B w fb rb s p O most Ty vo vt) (_hm : most ≤ 12000) (pc : Value) (O' : List Int) (_hl : O'.length ≤ 100000)
    (hw : Calls Tryz.prog 181 #[vo, pc] w fun e w' => ∃ v', e = .returned (.tuple #[v', .bool true]) ∧ OR w' B v' O' ∧ Moved w w' vo v') :
    Calls Tryz.prog 169 #[.pointer (some ⟨fb, 0, none⟩), pc] w (PutPost B w fb rb s p O' most Ty vo vt) := by
  have c1 := h.1.cells.2.1
  have hlf := h.ltf
  have HH := hid_of h
  clear h
  go_enter Tryz.func169, Tryz.ntmps169
  go_wp2_with fail
  refine hw.mono ?_
  clear hw
  rintro e w1 ⟨v', rfl, hO, hM⟩
  obtain ⟨k1, k2, k3⟩ := HH.out.made hO hM.1 hM.2
  have e2 := k1.cells.2.2.1
  have e1 := k1.cells.2.1
  have f1 := k1.free 1
  have hl1 := k1.lt
  have hst : Step fb rb w vo vt w1 vo vt := Step.one hM.1 (fun k e => .inr (.inr (.inl e)))
  obtain ⟨a, c, hv⟩ := hO.form
  subst hv
  by_cases hle : O'.length ≤ most
  · have d1 : decide ((most : Int) < (O'.length : Int)) = false := decide_eq_false (by omega)
    have d2 : decide (most < O'.length) = false := decide_eq_false (by omega)
    have HP : Hid (PutPost B w fb rb s p O' most Ty vo vt (.returned .nilIface) (w1.setCell ⟨fb, 1, none⟩ (.slice a O'.length c))) := .inl ⟨hle, rfl, _, k2, k3⟩
    clear HH hO hM k1 k2 k3 hst hle
    go_wp2_with fail
    go_ret
    exact HP.out
  · have d1 : decide ((most : Int) < (O'.length : Int)) = true := decide_eq_true (by omega)
    have d2 : decide (most < O'.length) = true := decide_eq_true (by omega)
    have HP : Hid (PutPost B w fb rb s p O' most Ty vo vt (.returned (errV 8)) w1) := .inr ⟨hle, rfl, hst⟩
    clear HH hO hM k1 k2 k3 hst hle
    go_wp2_with fail
    go_ret
    exact HP.out
theorem put_byte (h : PS B w fb rb s p O most Ty vo vt) (hm : most ≤ 12000) (hO : O.length ≤ most) (x : Int) :
    Calls Tryz.prog 169 #[.pointer (some ⟨fb, 0, none⟩), .iface 172 (.int .u8 x)] w (PutPost B w fb rb s p (O ++ [x]) most Ty vo vt) := by
  have hor := h.2.2.1
  obtain ⟨a, c, hv⟩ := hor.form
  subst hv
  exact put_done B w fb rb s p O most Ty _ vt h hm _ (O ++ [x]) (by simp; omega) (with_byte_own B a O.length c O x w hor (by omega) h.2.2.2.2.2.2.2.2.2.2)
theorem put_repeat (h : PS B w fb rb s p O most Ty vo vt) (hm : most ≤ 12000) (hO : O.length ≤ most) (T D : Nat) (hT : T ≤ 300) (hD : 1 ≤ D) (hD2 : D ≤ O.length) :
    Calls Tryz.prog 169 #[.pointer (some ⟨fb, 0, none⟩), .iface 174 (.agg #[.int .i64 (T : Int), .int .i64 (D : Int)])] w (PutPost B w fb rb s p (copyN D T O) most Ty vo vt) := by
  have hor := h.2.2.1
  obtain ⟨a, c, hv⟩ := hor.form
  subst hv
  have hw := with_repeat_own B a O.length c T D O w hor rfl (by omega) h.2.2.2.2.2.2.2.2.2.2 hT hD hD2
  have hl : (copyN D T O).length = O.length + T := by
    rw [copy_length]
  exact put_done B w fb rb s p O most Ty _ vt h hm _ (copyN D T O) (by omega) (hw.mono fun e w' ⟨a', c', q1, q2, q3⟩ => ⟨_, q1, q2, q3⟩)
set_option maxHeartbeats 800000 in
theorem put_far (h : PS B w fb rb s p O most Ty vo vt) (T D : Nat) (hD2 : O.length < D) :
    Calls Tryz.prog 169 #[.pointer (some ⟨fb, 0, none⟩), .iface 174 (.agg #[.int .i64 (T : Int), .int .i64 (D : Int)])] w fun e w' => e = .returned (errV 7) ∧ Step fb rb w vo vt w' vo vt := by
  have c1 := h.1.cells.2.1
  have hlf := h.ltf
  have hor := h.2.2.1
  obtain ⟨a, c, hv⟩ := hor.form
  subst hv
  have hw := with_far_own a O.length c (T : Int) (D : Int) w (by omega)
  clear h hor
  go_enter Tryz.func169, Tryz.ntmps169
  go_wp2_with fail
  refine hw.mono ?_
  clear hw
  rintro e w1 ⟨rfl, hB⟩
  have HS : Hid (Step fb rb w (.slice a O.length c) vt w1 (.slice a O.length c) vt) := Step.called hB
  clear hB
  go_wp2_with fail
  go_ret
  exact ⟨rfl, HS.out⟩
end
theorem take_mono {s : ByteArray} {p n : Nat} {x : Int} {p' : Nat} (h : takeE s p n = .ok (x, p')) : p' = p + n := by
  unfold takeE at h
  split at h
  · cases h
    rfl
  · cases h
theorem len_mono {s : ByteArray} {y p : Nat} {T : Int} {p2 : Nat} (h : lenE s y p = .ok (T, p2)) : p ≤ p2 := by
  unfold lenE at h
  split at h
  · cases h
  · cases e : takeE s p (lenBits y).1 with
    | error c =>
      rw [e] at h
      cases h
    | ok r =>
      obtain ⟨x, p'⟩ := r
      rw [e] at h
      cases h
      have := take_mono e
      omega
theorem sym_mono {s : ByteArray} {f : Nat → Int} {n p q p3 : Nat} (h : symE s f n p = .ok (q, p3)) : p < p3 := by
  rcases sym_cases f n s p with ⟨y, k, h1, _, _, _, h5⟩ | ⟨c, _, _, h5⟩
  · rw [h5] at h
    cases h
    omega
  · rw [h5] at h
    cases h
theorem dist_mono {s : ByteArray} {f : Nat → Int} {n p : Nat} {D : Int} {p4 : Nat} (h : distE s f n p = .ok (D, p4)) : p ≤ p4 := by
  unfold distE at h
  cases e : symE s f n p with
  | error c =>
    rw [e] at h
    cases h
  | ok r =>
    obtain ⟨q, p3⟩ := r
    rw [e] at h
    dsimp only at h
    have l1 := sym_mono e
    split at h
    · cases h
    · cases e2 : takeE s p3 (distBits q).1 with
      | error c =>
        rw [e2] at h
        cases h
      | ok r =>
        obtain ⟨x, p'⟩ := r
        rw [e2] at h
        cases h
        have := take_mono e2
        omega
/-- What the pieces of a block leave. -/
def BlkPost (B : Nat) (w : World) (fb rb : Nat) (s : ByteArray) (most : Nat) (Ty : List Int) (vo vt : Value) (res : Except Nat (List Int × Nat)) (e : Ending) (w' : World) : Prop :=
  (∃ O' p' vo', res = .ok (O', p') ∧ p' ≤ 8 * s.size ∧ O'.length ≤ most ∧ e = .returned .nilIface ∧ PS B w' fb rb s p' O' most Ty vo' vt ∧ Step fb rb w vo vt w' vo' vt) ∨
  (∃ c, res = .error c ∧ e = .returned (errV c) ∧ Below B w w')
/-- What the ring of takePieces has at hand. -/
def PcRing (B : Nat) (w : World) (fb rb : Nat) (s : ByteArray) (most : Nat) (Ty : List Int) (vo vt : Value) (S1 C1 b1 : Nat) (V1 : Nat → Value) (f1 : Nat → Int) (n1 S2 C2 b2 : Nat) (V2 : Nat → Value) (f2 : Nat → Int) (n2 : Nat) (res : Except Nat (List Int × Nat)) (m p : Nat) (O : List Int) (vo' : Value) (w' : World) : Prop :=
  PS B w' fb rb s p O most Ty vo' vt ∧ Step fb rb w vo vt w' vo' vt ∧ (Book w' S1 C1 b1 V1 f1 n1 ∧ Held w' fb rb vo' vt S1 C1) ∧ (Book w' S2 C2 b2 V2 f2 n2 ∧ Held w' fb rb vo' vt S2 C2) ∧ p ≤ 8 * s.size ∧ O.length ≤ most ∧ 8 * s.size + 1 ≤ m + p ∧ res = symbolsF s most f1 n1 f2 n2 m p O
section
variable (B : Nat) (w : World) (fb rb : Nat) (s : ByteArray) (p : Nat) (O : List Int) (most : Nat) (Ty : List Int) (vo vt : Value) (S1 C1 b1 : Nat) (V1 : Nat → Value) (f1 : Nat → Int) (n1 S2 C2 b2 : Nat) (V2 : Nat → Value) (f2 : Nat → Int) (n2 : Nat)
set_option maxRecDepth 100000 in
set_option maxHeartbeats 1600000 in
theorem takePieces_any (h : PS B w fb rb s p O most Ty vo vt) (hs : s.size ≤ 12000) (hp : p ≤ 8 * s.size) (hm : most ≤ 12000) (hO : O.length ≤ most) (hB1 : Book w S1 C1 b1 V1 f1 n1) (hH1 : Held w fb rb vo vt S1 C1) (hn1 : n1 ≤ 288) (hok1 : OkLens f1 n1) (hr1 : nx f1 n1 15 ≤ 32768) (hB2 : Book w S2 C2 b2 V2 f2 n2) (hH2 : Held w fb rb vo vt S2 C2) (hn2 : n2 ≤ 288) (hok2 : OkLens f2 n2) (hr2 : nx f2 n2 15 ≤ 32768) :
    Calls Tryz.prog 150 #[.pointer (some ⟨fb, 0, none⟩), .pointer (some ⟨b1, 0, none⟩), .pointer (some ⟨b2, 0, none⟩)] w (BlkPost B w fb rb s most Ty vo vt (symbolsF s most f1 n1 f2 n2 (8 * s.size + 1) p O)) := by
  obtain ⟨res, hres⟩ : ∃ res, res = symbolsF s most f1 n1 f2 n2 (8 * s.size + 1) p O := ⟨_, rfl⟩
  rw [← hres]
  have H0 : Hid (PcRing B w fb rb s most Ty vo vt S1 C1 b1 V1 f1 n1 S2 C2 b2 V2 f2 n2 res (8 * s.size + 1) p O vo w) := ⟨h, Step.refl w, ⟨hB1, hH1⟩, ⟨hB2, hH2⟩, hp, hO, by omega, hres⟩
  have HPS := hid_of h
  have HK1 := hid_of (And.intro hok1 hr1)
  have HK2 := hid_of (And.intro hok2 hr2)
  clear h hB1 hH1 hok1 hr1 hB2 hH2 hok2 hr2 hres hO hp
  go_enter Tryz.func150, Tryz.ntmps150
  go_wp2_with fail
  go_loopg [] (8 * s.size + 2) (fun gk w' => ∃ (m p : Nat) (O : List Int) (vo' : Value), m ≤ gk ∧ Hid (PcRing B w fb rb s most Ty vo vt S1 C1 b1 V1 f1 n1 S2 C2 b2 V2 f2 n2 res m p O vo' w'))
  case atStart => exact ⟨8 * s.size + 1, p, O, vo, by omega, H0⟩
  case round =>
    clear H0
    obtain ⟨m, p, O, vo1, hgk, hR⟩ := hrel
    obtain ⟨m1, rfl⟩ : ∃ m1, m = m1 + 1 := ⟨m - 1, by have := hR.out.2.2.2.2.1; have := hR.out.2.2.2.2.2.2.1; omega⟩
    have hsy := takeSymbol_any B wr fb rb s p O most Ty vo1 vt S1 C1 b1 V1 f1 n1 hR.out.1 hs hR.out.2.2.2.2.1 hR.out.2.2.1.1 hR.out.2.2.1.2 hn1 HK1.out.1 HK1.out.2
    go_wp2_with fail
    refine hsy.mono ?_
    clear hsy
    rintro e w1 ⟨hst, ⟨y, p1, hsE, hlt, hp1, hyn, rfl, hps⟩ | ⟨c, hsE, rfl⟩⟩
    · by_cases hy : y = 256
      · subst hy
        have HP : Hid (BlkPost B w fb rb s most Ty vo vt res (.returned .nilIface) w1) := .inl ⟨O, p1, vo1, hR.out.2.2.2.2.2.2.2.trans (syms_end hsE), hp1, hR.out.2.2.2.2.2.1, rfl, hps, hR.out.2.1.trans hst⟩
        clear hR hst hps
        go_wp2_with fail
        go_ret
        exact HP.out
      · have dy : ((y : Int) == 256) = false := by simp; omega
        have HST := hid_of hst
        have HPS1 := hid_of hps
        have HE := hid_of hsE
        clear hst hps hsE
        by_cases hyl : y < 256
        · have htp := takePiece_byte fb b2 w1 y hyl
          have hpb := put_byte B w1 fb rb s p1 O most Ty vo1 vt HPS1.out hm hR.out.2.2.2.2.2.1 (y : Int)
          go_wp2_with fail
          refine htp.mono ?_
          rintro e w2 ⟨rfl, rfl⟩
          clear htp
          go_wp2_with fail
          refine hpb.mono ?_
          clear hpb
          rintro e w3 (⟨hle, rfl, vo2, hps2, hst2⟩ | ⟨hle, rfl, hst2⟩)
          · have HN : Hid (PcRing B w fb rb s most Ty vo vt S1 C1 b1 V1 f1 n1 S2 C2 b2 V2 f2 n2 res m1 p1 (O ++ [(y : Int)]) vo2 w3) := by
              obtain ⟨q1, q2, ⟨q3, q4⟩, ⟨q5, q6⟩, q7, q8, q9, q10⟩ := hR.out
              have st := HST.out.trans hst2
              refine ⟨hps2, q2.trans st, ⟨q3.step q4 st, q4.step st⟩, ⟨q5.step q6 st, q6.step st⟩, hp1, hle, by omega, ?_⟩
              rw [q10, syms_byte HE.out hyl, if_neg (by rw [List.length_append, List.length_singleton] at hle; omega)]
            clear hR HST HPS1 hps2 hst2 HE hle
            go_wp2_with fail
            go_roundg m1
            case measure => omega
            case rel => exact ⟨m1, p1, _, vo2, Nat.le_refl _, HN⟩
          · have HP : Hid (BlkPost B w fb rb s most Ty vo vt res (.returned (errV 8)) w3) := by
              obtain ⟨q1, q2, _, _, q7, q8, q9, q10⟩ := hR.out
              refine .inr ⟨8, ?_, rfl, HPS.out.below (q2.trans (HST.out.trans hst2))⟩
              rw [q10, syms_byte HE.out hyl, if_pos (by rw [List.length_append, List.length_singleton] at hle; omega)]
            clear hR HST HPS1 hst2 HE hle
            go_wp2_with fail
            go_ret
            exact HP.out
        · have hRo := hR.out
          have htp := takePiece_far B w1 fb rb s p1 O most Ty vo1 vt S2 C2 b2 V2 f2 n2 HPS1.out hs hp1 (hRo.2.2.2.1.1.step hRo.2.2.2.1.2 HST.out) (hRo.2.2.2.1.2.step HST.out) hn2 HK2.out.1 HK2.out.2 y (by omega) (by omega)
          clear hRo HPS1
          go_wp2_with fail
          refine htp.mono ?_
          clear htp
          rintro e w2 ⟨hst2, ⟨T, D, p2, p4, hlE, hdE, hp4, hT, hD1, hD2, rfl, hps2⟩ | ⟨c, hcE, rfl⟩⟩
          · have HEQ : Hid (res = if (O.length : Int) < (D : Int) then .error 7 else if (most : Int) - O.length < (T : Int) then .error 8 else symbolsF s most f1 n1 f2 n2 m1 p4 (copyN D T O)) := by
              show res = _
              rw [hR.out.2.2.2.2.2.2.2, syms_piece HE.out (by omega), hlE]
              dsimp only
              rw [hdE]
              rfl
            have hpp : p1 ≤ p4 := by
              have l1 := len_mono hlE
              have l2 := dist_mono hdE
              omega
            have HST2 := hid_of (HST.out.trans hst2)
            have HPS2 := hid_of hps2
            clear hlE hdE hst2 hps2 HST HE
            by_cases hfar : O.length < D
            · have hpf := put_far B w2 fb rb s p4 O most Ty vo1 vt HPS2.out T D hfar
              have HE7 : Hid (res = .error 7) := HEQ.out.trans (if_pos (by omega))
              clear HEQ
              go_wp2_with fail
              refine hpf.mono ?_
              clear hpf
              rintro e w3 ⟨rfl, hst3⟩
              have HP : Hid (BlkPost B w fb rb s most Ty vo vt res (.returned (errV 7)) w3) := .inr ⟨7, HE7.out, rfl, HPS.out.below (hR.out.2.1.trans (HST2.out.trans hst3))⟩
              clear hR HST2 HPS2 hst3 HE7
              go_wp2_with fail
              go_ret
              exact HP.out
            · have hpr := put_repeat B w2 fb rb s p4 O most Ty vo1 vt HPS2.out hm hR.out.2.2.2.2.2.1 T D hT hD1 (by omega)
              have hcl : (copyN D T O).length = O.length + T := copy_length D T O
              go_wp2_with fail
              refine hpr.mono ?_
              clear hpr
              rintro e w3 (⟨hle, rfl, vo2, hps3, hst3⟩ | ⟨hle, rfl, hst3⟩)
              · have HN : Hid (PcRing B w fb rb s most Ty vo vt S1 C1 b1 V1 f1 n1 S2 C2 b2 V2 f2 n2 res m1 p4 (copyN D T O) vo2 w3) := by
                  obtain ⟨q1, q2, ⟨q3, q4⟩, ⟨q5, q6⟩, q7, q8, q9, q10⟩ := hR.out
                  have st := HST2.out.trans hst3
                  refine ⟨hps3, q2.trans st, ⟨q3.step q4 st, q4.step st⟩, ⟨q5.step q6 st, q6.step st⟩, hp4, hle, by omega, ?_⟩
                  rw [HEQ.out, if_neg (by omega), if_neg (by omega)]
                clear hR HST2 HPS2 hps3 hst3 HEQ hle hcl
                go_wp2_with fail
                go_roundg m1
                case measure => omega
                case rel => exact ⟨m1, p4, _, vo2, Nat.le_refl _, HN⟩
              · have HP : Hid (BlkPost B w fb rb s most Ty vo vt res (.returned (errV 8)) w3) := by
                  obtain ⟨q1, q2, _, _, q7, q8, q9, q10⟩ := hR.out
                  refine .inr ⟨8, ?_, rfl, HPS.out.below (q2.trans (HST2.out.trans hst3))⟩
                  rw [HEQ.out, if_neg (by omega), if_pos (by omega)]
                clear hR HST2 HPS2 hst3 HEQ hle hcl
                go_wp2_with fail
                go_ret
                exact HP.out
          · have HP : Hid (BlkPost B w fb rb s most Ty vo vt res (.returned (errV c)) w2) := by
              refine .inr ⟨c, ?_, rfl, HPS.out.below (hR.out.2.1.trans (HST.out.trans hst2))⟩
              rw [hR.out.2.2.2.2.2.2.2, syms_piece HE.out (by omega)]
              rcases hcE with q | ⟨T, p2, q1, q2⟩
              · rw [q]
              · rw [q1]
                dsimp only
                rw [q2]
            clear hR HST hst2 HE hcE
            go_wp2_with fail
            go_ret
            exact HP.out
    · have HP : Hid (BlkPost B w fb rb s most Ty vo vt res (.returned (errV c)) w1) := .inr ⟨c, hR.out.2.2.2.2.2.2.2.trans (syms_err hsE), rfl, HPS.out.below (hR.out.2.1.trans hst)⟩
      clear hR hst
      go_wp2_with fail
      go_ret
      exact HP.out
end
end Go.Proofs.YtbcnlggkoidmmaaGreatDoor

namespace Go.Proofs.YtbcnlggkoidmmaaGreatDoor
open Go.RowKit Go.Joins OutMath CodeMath TakeMath InfMath

section
variable {w0 w w' : World} {b : Nat} {s : ByteArray} {p : Nat} {O : List Int} {most c : Nat} {Ty : List Int} {vo vt : Value} {g3 : Nat} {F : Nat → Int}
end
theorem order_small : ∀ i, i < 19 → orderL.getD i 0 < 19 := by decide
theorem order_back : ∀ i, i < 19 → orderL.idxOf (orderL.getD i 0) = i := by decide
theorem order_all : ∀ j, j < 19 → orderL.idxOf j < 19 ∧ orderL.getD (orderL.idxOf j) 0 = j := by decide
/-- One length more. -/
theorem third_next (s : ByteArray) (p i : Nat) (hi : i < 19) : ∀ j, j < 19 → upd (thirdF s p i) (orderL.getD i 0) (num s (p + 3 * i) 3) j = thirdF s p (i + 1) j := by
  intro j hj
  unfold upd thirdF
  by_cases h : j = orderL.getD i 0
  · subst h
    rw [if_pos rfl, order_back i hi, if_pos (by omega)]
  · rw [if_neg h]
    have hne : orderL.idxOf j ≠ i := fun e => h (by rw [← e, (order_all j hj).2])
    by_cases h2 : orderL.idxOf j < i
    · rw [if_pos h2, if_pos (by omega)]
    · rw [if_neg h2, if_neg (by omega)]
theorem third_start (s : ByteArray) (p : Nat) : thirdF s p 0 = fun _ => 0 := by
  funext i
  unfold thirdF
  rw [if_neg (by omega)]
end Go.Proofs.YtbcnlggkoidmmaaGreatDoor

namespace Go.Proofs.YtbcnlggkoidmmaaGreatDoor
open Go.RowKit Go.Joins

theorem info_made : (Tryz.prog.info? 3).map (fun i => (i.zero, i.size, i.bytes)) = some (some (.int .i64 0), 1, 8) := by kernel_rfl

theorem make_ints (w : World) (n : Nat) (hn : n ≤ 1048576) : (Instr.makeSlice 26 (.int .i64 n) (.int .i64 n)).run Tryz.prog w = .ok (.slice (some ⟨w.heap.size, 0, none⟩) n n) (w.alloc (.cells (madeCells #[Value.int .i64 0] n) 3)) := by
  obtain ⟨i0, hi0, hz0, hz1, hz2⟩ := info_parts info_made
  have h := run_make (P := Tryz.prog) w 26 3 i0 (.int .i64 0) Tryz.underlying26 hi0 hz0 .i64 .i64 n n (by omega) (by omega) (by rw [hz2]; omega) (by omega)
  rw [hz1, Int.toNat_natCast, Nat.mul_one] at h
  exact h

end Go.Proofs.YtbcnlggkoidmmaaGreatDoor

namespace Go.Proofs.YtbcnlggkoidmmaaGreatDoor
open Go.RowKit Go.Joins

/-- Sixteen numbers. -/
abbrev six (g : Nat → Int) : Array Value := #[.int .i64 (g 0), .int .i64 (g 1), .int .i64 (g 2), .int .i64 (g 3), .int .i64 (g 4), .int .i64 (g 5), .int .i64 (g 6), .int .i64 (g 7), .int .i64 (g 8), .int .i64 (g 9), .int .i64 (g 10), .int .i64 (g 11), .int .i64 (g 12), .int .i64 (g 13), .int .i64 (g 14), .int .i64 (g 15)]

/-- Block b is an array of sixteen numbers. -/
def Six (w : World) (b : Nat) (t : TypeId) (g : Nat → Int) : Prop := w.heap[b]? = some (.cells (fints g 16).toArray t (0, 0))
theorem Six.c {w : World} {b : Nat} {t : TypeId} {g : Nat → Int} (h : Six w b t g) (i : Nat) (hi : i < 16) : w.cell? ⟨b, i, none⟩ = some (.int .i64 (g i)) := by
  have k := cell_of_block h i
  rw [k, List.getElem?_toArray, List.getElem?_eq_getElem (by rw [fints_length]; exact hi), fints_get]
theorem Six.f {w : World} {b : Nat} {t : TypeId} {g : Nat → Int} (h : Six w b t g) (i : Nat) : w.frozen? ⟨b, i, none⟩ = false := unfrozen_of_block h i
theorem Six.lt {w : World} {b : Nat} {t : TypeId} {g : Nat → Int} (h : Six w b t g) : b < w.heap.size := block_lt h
theorem Six.set {w : World} {b : Nat} {t : TypeId} {g : Nat → Int} (h : Six w b t g) (i : Nat) (x : Int) : Six (w.setCell ⟨b, i, none⟩ (.int .i64 x)) b t (upd g i x) := by
  have k := block_setCell (i := i) h (.int .i64 x)
  unfold Six
  rw [k, ← fints_set]
  simp
theorem Six.congr {w : World} {b : Nat} {t : TypeId} {g g' : Nat → Int} (h : Six w b t g) (e : ∀ i, i < 16 → g i = g' i) : Six w b t g' := by
  unfold Six at h ⊢
  rw [← fints_congr e]
  exact h

end Go.Proofs.YtbcnlggkoidmmaaGreatDoor

namespace Go.Proofs.YtbcnlggkoidmmaaGreatDoor
open Go.RowKit Go.Joins OutMath CodeMath

theorem cs_here (f : Nat → Int) (k : Nat) (h : 0 < f k) (s : Nat) : upd (cs f k) (f k).toNat (cs f k (f k).toNat + 1) s = cs f (k + 1) s := by
  rw [cs_step f k (by omega)]
  unfold upd
  by_cases h1 : s = (f k).toNat
  · rw [if_pos h1, if_pos ⟨h, h1⟩, h1]
  · rw [if_neg h1, if_neg (by omega)]
    omega
theorem cs_skip (f : Nat → Int) (k : Nat) (h : f k = 0) (s : Nat) : cs f k s = cs f (k + 1) s := by
  rw [cs_step f k (by omega), if_neg (by omega)]
  omega

/-- What the ring of countLengths has at hand. -/
def CntSt (w w' : World) (f : Nat → Int) (j : Nat) : Prop := Six w' (w.heap.size + 1) 224 (cs f j) ∧ Six w' w.heap.size 224 (fun _ => 0) ∧ Below w.heap.size w w' ∧ OkLens f j

theorem cnt_start (w : World) (f : Nat → Int) : CntSt w ((w.alloc (.cells (six fun _ => 0) 224)).alloc (.cells (six fun _ => 0) 224)) f 0 := by
  refine ⟨?_, ?_, bal (bstart _ _) _, fun i hi => absurd hi (Nat.not_lt_zero i)⟩
  · refine Six.congr (g := fun _ => 0) ?_ (fun s _ => (cs_start f s).symm)
    have k := heap_alloc_new (w.alloc (.cells (six fun _ => 0) 224)) (.cells (six fun _ => 0) 224)
    rw [show (w.alloc (.cells (six fun _ => 0) 224)).heap.size = w.heap.size + 1 by simp] at k
    exact k
  · show _ = _
    rw [Below.heap_alloc _ _ _ (by simp)]
    exact heap_alloc_new w _

set_option maxHeartbeats 800000 in
theorem count_yes (a : Option Addr) (n cap : Nat) (f : Nat → Int) (w : World) (hC : Came w a n f) (hm : n ≤ 288) (hok : OkLens f n) :
    Calls Tryz.prog 139 #[.slice a n cap] w fun e w' => e = .returned (.tuple #[.agg (six (cs f n)), .bool true]) ∧ Below w.heap.size w w' := by
  have HC : Hid (Came w a n f) := hC
  have HO : Hid (OkLens f n) := hok
  have H0 := hid_of (cnt_start w f)
  clear hC hok
  go_enter Tryz.func139, Tryz.ntmps139
  go_wp2_with fail
  go_loopw [13] (fun i w' => ∃ j : Nat, j ≤ n ∧ i = .int .i64 j ∧ Hid (CntSt w w' f j)) (fun i _ => n - (intOf i).toNat)
  case atStart => exact ⟨0, Nat.zero_le _, rfl, H0⟩
  case round =>
    clear H0
    obtain ⟨j, hj, rfl, hS⟩ := hrel
    by_cases hlt : j < n
    · rcases HC.out with h0 | ⟨g, off, rfl, hg, hc⟩
      · omega
      · have c0 : wr.cell? ⟨g, off + j, none⟩ = some (.int .i64 (f j)) := (hS.out.2.2.1.cell (p := ⟨g, off + j, none⟩) hg).trans (hc j hlt)
        have hl2 : g < wr.heap.size := Nat.lt_of_lt_of_le hg hS.out.2.2.1.size
        clear hc
        obtain ⟨i0, i1⟩ := HO.out j hlt
        have hok1 : Hid (OkLens f (j + 1)) := fun i hi => HO.out i (by omega)
        by_cases hpos : 0 < f j
        · obtain ⟨m, hmj⟩ := Int.eq_ofNat_of_zero_le i0
          have cm := hS.out.1.c m (by omega)
          have fm := hS.out.1.f m
          have hlb := hS.out.1.lt
          have hcb := cs_bd f j m
          have HS1 : Hid (CntSt w (wr.setCell ⟨w.heap.size + 1, m, none⟩ (.int .i64 (cs f j m + 1))) f (j + 1)) := by
            refine ⟨(hS.out.1.set m _).congr (fun i _ => ?_), ?_, Below.setCell (p := ⟨w.heap.size + 1, m, none⟩) hS.out.2.2.1 (Nat.le_succ _) _, hok1.out⟩
            · have := cs_here f j hpos i
              rw [show (f j).toNat = m by omega] at this
              exact this
            · show _ = _
              rw [Below.heap_setCell _ _ _ _ (show w.heap.size ≠ w.heap.size + 1 by omega)]
              exact hS.out.2.1
          rw [hmj] at c0 hpos
          have d : decide ((0 : Int) < (m : Int)) = true := by simpa using hpos
          go_wp2_with fail
          go_roundw
          case rel => exact ⟨j + 1, by omega, by go_num, HS1⟩
          case measure => simp [intOf]; omega
        · have e0 : f j = 0 := by omega
          have HS1 : Hid (CntSt w wr f (j + 1)) := ⟨hS.out.1.congr (fun i _ => cs_skip f j e0 i), hS.out.2.1, hS.out.2.2.1, hok1.out⟩
          rw [e0] at c0
          go_wp2_with fail
          go_roundw
          case rel => exact ⟨j + 1, by omega, by go_num, HS1⟩
          case measure => simp [intOf]; omega
    · obtain rfl : j = n := by omega
      have cc := hS.out.1.c
      have fc := hS.out.1.f
      have lc := hS.out.1.lt
      have cr := hS.out.2.1.c
      have fr := hS.out.2.1.f
      have hB := hS.out.2.2.1
      go_wp2_with fail
      refine bodyPost_ret (v := .tuple #[.agg (six (cs f j)), .bool true]) (by simp [results, Tryz.results139, go_sem, cr]) rfl ⟨rfl, ?_⟩
      iterate 16 refine Below.setCell ?_ (by simp) _
      exact hB

theorem count_long (a : Option Addr) (n cap : Nat) (w : World) (hn : n ≤ 1048576) (hm : ¬ n ≤ 288) :
    Calls Tryz.prog 139 #[.slice a n cap] w fun e w' => e = .returned (.tuple #[.agg (six fun _ => 0), .bool false]) ∧ Below w.heap.size w w' := by
  go_enter Tryz.func139, Tryz.ntmps139
  go_wp2_with fail
  exact bodyPost_ret (v := .tuple #[.agg (six fun _ => 0), .bool false]) (by simp [results, Tryz.results139, go_sem]) rfl ⟨rfl, bal (bstart _ _) _⟩

set_option maxHeartbeats 800000 in
theorem count_bad (a : Option Addr) (n cap : Nat) (f : Nat → Int) (w : World) (hC : Came w a n f) (hm : n ≤ 288) (hf : ∀ i, i < n → (Lit.int .i64 (f i)).wf = true) (hb : ¬ OkLens f n) :
    Calls Tryz.prog 139 #[.slice a n cap] w fun e w' => e = .returned (.tuple #[.agg (six fun _ => 0), .bool false]) ∧ Below w.heap.size w w' := by
  have HC : Hid (Came w a n f) := hC
  have HB : Hid (¬ OkLens f n) := hb
  have HF : Hid (∀ i, i < n → (Lit.int .i64 (f i)).wf = true) := hf
  have H0 := hid_of (cnt_start w f)
  clear hC hb hf
  go_enter Tryz.func139, Tryz.ntmps139
  go_wp2_with fail
  go_loopw [13] (fun i w' => ∃ j : Nat, j ≤ n ∧ i = .int .i64 j ∧ Hid (CntSt w w' f j)) (fun i _ => n - (intOf i).toNat)
  case atStart => exact ⟨0, Nat.zero_le _, rfl, H0⟩
  case round =>
    clear H0
    obtain ⟨j, hj, rfl, hS⟩ := hrel
    by_cases hlt : j < n
    · rcases HC.out with h0 | ⟨g, off, rfl, hg, hc⟩
      · omega
      · have c0 : wr.cell? ⟨g, off + j, none⟩ = some (.int .i64 (f j)) := (hS.out.2.2.1.cell (p := ⟨g, off + j, none⟩) hg).trans (hc j hlt)
        have hl2 : g < wr.heap.size := Nat.lt_of_lt_of_le hg hS.out.2.2.1.size
        clear hc
        by_cases hin : 0 ≤ f j ∧ f j ≤ 15
        · obtain ⟨i0, i1⟩ := hin
          have hok1 : Hid (OkLens f (j + 1)) := fun i hi => by
            by_cases e : i = j
            · rw [e]; exact ⟨i0, i1⟩
            · exact hS.out.2.2.2 i (by omega)
          by_cases hpos : 0 < f j
          · obtain ⟨m, hmj⟩ := Int.eq_ofNat_of_zero_le i0
            have cm := hS.out.1.c m (by omega)
            have fm := hS.out.1.f m
            have hlb := hS.out.1.lt
            have hcb := cs_bd f j m
            have HS1 : Hid (CntSt w (wr.setCell ⟨w.heap.size + 1, m, none⟩ (.int .i64 (cs f j m + 1))) f (j + 1)) := by
              refine ⟨(hS.out.1.set m _).congr (fun i _ => ?_), ?_, Below.setCell (p := ⟨w.heap.size + 1, m, none⟩) hS.out.2.2.1 (Nat.le_succ _) _, hok1.out⟩
              · have := cs_here f j hpos i
                rw [show (f j).toNat = m by omega] at this
                exact this
              · show _ = _
                rw [Below.heap_setCell _ _ _ _ (show w.heap.size ≠ w.heap.size + 1 by omega)]
                exact hS.out.2.1
            rw [hmj] at c0 hpos
            have d : decide ((0 : Int) < (m : Int)) = true := by simpa using hpos
            go_wp2_with fail
            go_roundw
            case rel => exact ⟨j + 1, by omega, by go_num, HS1⟩
            case measure => simp [intOf]; omega
          · have e0 : f j = 0 := by omega
            have HS1 : Hid (CntSt w wr f (j + 1)) := ⟨hS.out.1.congr (fun i _ => cs_skip f j e0 i), hS.out.2.1, hS.out.2.2.1, hok1.out⟩
            rw [e0] at c0
            go_wp2_with fail
            go_roundw
            case rel => exact ⟨j + 1, by omega, by go_num, HS1⟩
            case measure => simp [intOf]; omega
        · have cr := hS.out.2.1.c
          have fr := hS.out.2.1.f
          have lr := hS.out.2.1.lt
          have hB := hS.out.2.2.1
          by_cases q0 : f j < 0
          · have d0 : decide (f j < 0) = true := by simpa using q0
            clear hin
            go_wp2_with fail
            refine bodyPost_ret (v := .tuple #[.agg (six fun _ => 0), .bool false]) (by simp [results, Tryz.results139, go_sem, cr]) rfl ⟨rfl, ?_⟩
            iterate 16 refine Below.setCell ?_ (by simp) _
            exact hB
          · have d0 : decide (f j < 0) = false := by simpa using q0
            have q1 : 15 < f j := by omega
            have d1 : decide (15 < f j) = true := by simpa using q1
            clear hin
            go_wp2_with fail
            refine bodyPost_ret (v := .tuple #[.agg (six fun _ => 0), .bool false]) (by simp [results, Tryz.results139, go_sem, cr]) rfl ⟨rfl, ?_⟩
            iterate 16 refine Below.setCell ?_ (by simp) _
            exact hB
    · obtain rfl : j = n := by omega
      exact absurd hS.out.2.2.2 HB.out

theorem count_no (a : Option Addr) (n cap : Nat) (f : Nat → Int) (w : World) (hC : Came w a n f) (hn : n ≤ 1048576) (hf : ∀ i, i < n → (Lit.int .i64 (f i)).wf = true) (hb : ¬ (n ≤ 288 ∧ OkLens f n)) :
    Calls Tryz.prog 139 #[.slice a n cap] w fun e w' => e = .returned (.tuple #[.agg (six fun _ => 0), .bool false]) ∧ Below w.heap.size w w' := by
  by_cases hm : n ≤ 288
  · exact count_bad a n cap f w hC hm hf (fun h => hb ⟨hm, h⟩)
  · exact count_long a n cap w hn hm

end Go.Proofs.YtbcnlggkoidmmaaGreatDoor

namespace Go.Proofs.YtbcnlggkoidmmaaGreatDoor
open Go.RowKit Go.Joins OutMath CodeMath

theorem six_index (g : Nat → Int) (k : Nat) (hk : k < 16) (w : World) : (Instr.index 224 (.agg (six g)) (.int .i64 (k : Int))).run Tryz.prog w = .ok (.int .i64 (g k)) w := by
  have h : (0 : Int) ≤ k ∧ (k : Int) < 16 := by omega
  have e : (fints g 16)[k]? = some (.int .i64 (g k)) := by
    rw [List.getElem?_eq_getElem (by rw [fints_length]; exact hk), fints_get]
  show (Instr.index 224 (.agg (fints g 16).toArray) (.int .i64 (k : Int))).run Tryz.prog w = _
  simp [Instr.index, run_underlying Tryz.underlying224, asIntOf, go_sem, hk, e]

set_option maxHeartbeats 800000 in
theorem fullTo_any (g : Nat → Int) (w : World) (hg : ∀ s, 0 ≤ g s ∧ g s ≤ 288) :
    Calls Tryz.prog 140 #[.agg (six g)] w fun e w' => e = .returned (.int .i64 (fullS g 16)) ∧ Below w.heap.size w w' := by
  have HG : Hid (∀ s, 0 ≤ g s ∧ g s ≤ 288) := hg
  clear hg
  go_enter Tryz.func140, Tryz.ntmps140
  go_wp2_with fail
  go_loop [3, 7] (fun x i => ∃ j : Nat, j ≤ 16 ∧ i = .int .i64 j ∧ x = .int .i64 (fullS g j)) (fun _ i => 16 - (intOf i).toNat)
  case atStart => exact ⟨0, Nat.zero_le _, rfl, rfl⟩
  case round =>
    obtain ⟨j, hj, rfl, rfl⟩ := hrel
    have hb := fullS_bd g HG.out j
    by_cases hlt : j < 16
    · have hix := fun w => six_index g j hlt w
      have hp := shl_part g HG.out j
      have hgj := HG.out j
      have HR : Hid (fullS g (j + 1) = fullS g j + g j * p2 (15 - j)) := rfl
      have e15 : ((15 : Int) - (j : Int)).toNat = 15 - j := by omega
      have HW : Hid (wrap64 (fullS g j + wrap64 (g j * 2 ^ (15 - j))) = fullS g (j + 1)) := by
        show wrap64 (fullS g j + wrap64 (g j * p2 (15 - j))) = fullS g j + g j * p2 (15 - j)
        unfold wrap64
        omega
      go_wp2_with fail
      go_round
      case rel => exact ⟨j + 1, by omega, by go_num, by rw [HW.out]⟩
      case measure => simp [intOf]; omega
    · obtain rfl : j = 16 := by omega
      go_wp2_with fail
      go_ret
      exact ⟨rfl, bstart _ _⟩

end Go.Proofs.YtbcnlggkoidmmaaGreatDoor

namespace Go.Proofs.YtbcnlggkoidmmaaGreatDoor
open Go.RowKit Go.Joins

theorem info_six : (Tryz.prog.info? 3).map (fun i => (i.zero, i.size, i.bytes)) = some (some (.int .i64 0), 1, 8) := by kernel_rfl
theorem six_part (g : Nat → Int) (k : Nat) (hk : k < 16) (w : World) : (part 3 (fints g 16).toArray (k * 1)).run Tryz.prog w = .ok (.int .i64 (g k)) w := by
  have e : (fints g 16)[k]? = some (.int .i64 (g k)) := by
    rw [List.getElem?_eq_getElem (by rw [fints_length]; exact hk), fints_get]
  simp [go_sem, e]
theorem six_items (g h : Nat → Int) (w : World) : ∀ is : List Nat, (∀ i ∈ is, i < 16) → (Op.eqItems 9999 3 1 (fints g 16).toArray (fints h 16).toArray is).run Tryz.prog w = .ok (is.all fun i => g i == h i) w
  | [], _ => by simp [Op.eqItems]
  | i :: is, hi => by
    have h1 := hi i (by simp)
    have ih := six_items g h w is (fun j hj => hi j (by simp [hj]))
    have e := run_equalIn_int (P := Tryz.prog) w 9998 3 .i64 .i64 (g i) (h i) Tryz.underlying3
    simp only [Op.eqItems, Sem.run_bind, six_part _ i h1, Result.andThen_ok, List.all_cons]
    rw [e]
    simp only [Result.andThen_ok]
    cases hb : (g i == h i)
    · simp
    · simpa using ih
theorem six_eq (g h : Nat → Int) (b : Bool) (hb : b = true ↔ ∀ s, s < 16 → g s = h s) (w : World) : (Op.equalIn 10000 224 (.agg (six g)) (.agg (six h))).run Tryz.prog w = .ok b w := by
  obtain ⟨i0, hi0, hz0, hz1, hz2⟩ := info_parts info_six
  have hc : Tryz.prog.cellsOf 3 = 1 := by kernel_rfl
  have k := run_equalIn_array (P := Tryz.prog) w 9999 (fints g 16).toArray (fints h 16).toArray Tryz.underlying224 hi0
  rw [hc, six_items g h w _ (fun i hi => List.mem_range.mp hi)] at k
  have e : b = ((List.range 16).all fun i => g i == h i) := by
    rw [Bool.eq_iff_iff, hb]
    simp
  rw [e]
  exact k

end Go.Proofs.YtbcnlggkoidmmaaGreatDoor
