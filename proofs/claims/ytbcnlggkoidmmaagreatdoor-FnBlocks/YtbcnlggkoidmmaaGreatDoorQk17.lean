/-
  What the symbols of a block come to, by cases; the bits of a length and of a distance in the model.
  The walks of the program's pieces: lengths and distances are taken, pieces are put behind.
-/
import Derived.Test.YtbcnlggkoidmmaaGreatDoorRows
import Derived.Test.YtbcnlggkoidmmaaGreatDoorQk01
import Derived.Test.YtbcnlggkoidmmaaGreatDoorQk04
import Derived.Test.YtbcnlggkoidmmaaGreatDoorQk05
import Derived.Test.YtbcnlggkoidmmaaGreatDoorQk06
import Derived.Test.YtbcnlggkoidmmaaGreatDoorQk02
import Derived.Test.YtbcnlggkoidmmaaGreatDoorQk07
import Derived.Test.YtbcnlggkoidmmaaGreatDoorQk13
import Derived.Test.YtbcnlggkoidmmaaGreatDoorQk16
import Derived.Test.YtbcnlggkoidmmaaGreatDoorQk03
import Derived.Test.YtbcnlggkoidmmaaGreatDoorQk15
import Derived.WalkKit
import Derived.ProofKit
import Derived.Below
import Derived.WalkLawsBesides
import Derived.Deep.QuietTactic
import Derived.BigQuiet
import Derived.Lib.SmallJoins
import Derived.RegionTactic
import Derived.OwnWalk
import Derived.Deep.LoopGhost
import Derived.Deep.AppendLies
namespace Go.Proofs.YtbcnlggkoidmmaaGreatDoor
open Go.RowKit Go.Joins OutMath CodeMath TakeMath HitMath WayMath StepMath TokMath InfMath

theorem sym_cases (f : Nat → Int) (n : Nat) (s : ByteArray) (p : Nat) : (∃ y k, 1 ≤ k ∧ y < n ∧ p + k ≤ 8 * s.size ∧ symR f n s p 0 = (y, p + k, 0) ∧ symE s f n p = .ok (y, p + k)) ∨ (∃ c, (c = 2 ∨ c = 6) ∧ symR f n s p 0 = (0, p, c) ∧ symE s f n p = .error c) := by
  have h := symW_small (f := f) (n := n) (s := s) (a := p)
  unfold symR symE
  rw [if_neg (fun h => h rfl)]
  generalize symW f n s p = W at h
  obtain ⟨y, k, x⟩ := W
  rcases h with ⟨hx, hit⟩ | ⟨hx, _⟩ | hx
  · have hx' : x = 0 := hx
    subst hx'
    have hit' : Hit f n s p y k := hit
    refine .inl ⟨y, k, ?_, hit'.1, hit'.2.2.2.2, by simp, by simp⟩
    have h0 := hit'.2.1
    have h1 := hit'.2.2.1
    omega
  · have hx' : x = 2 := hx
    subst hx'
    exact .inr ⟨2, .inl rfl, by simp, by simp⟩
  · have hx' : x = 1 := hx
    subst hx'
    exact .inr ⟨6, .inr rfl, by simp, by simp⟩
theorem lenBits_small {y : Nat} (h1 : 257 ≤ y) (h2 : y ≤ 285) : (lenBits y).1 ≤ 5 ∧ 1 ≤ (lenBits y).2 ∧ ((lenBits y).2 : Int) + 2 ^ (lenBits y).1 ≤ 300 := by
  obtain ⟨j, rfl⟩ := Nat.le.dest h1
  have hj : j < 29 := by omega
  clear h1 h2
  revert hj j
  decide +kernel
theorem distBits_small {q : Nat} (h : q ≤ 29) : (distBits q).1 ≤ 13 ∧ 1 ≤ (distBits q).2 ∧ ((distBits q).2 : Int) + 2 ^ (distBits q).1 ≤ 40000 := by
  have hj : q < 30 := by omega
  clear h
  revert hj q
  decide +kernel
theorem len_of {y : Nat} {x : Int} (h1 : 257 ≤ y) (h2 : y ≤ 285) (h3 : 0 ≤ x) (h4 : x < 2 ^ (lenBits y).1) : LengthOfR (y : Int) x = ((lenBits y).2 + x, true) := by
  unfold LengthOfR
  rw [Int.toNat_natCast, if_pos ⟨⟨by omega, by omega⟩, h3, h4⟩]
theorem dist_of {q : Nat} {x : Int} (h2 : q ≤ 29) (h3 : 0 ≤ x) (h4 : x < 2 ^ (distBits q).1) : DistOfR (q : Int) x = ((distBits q).2 + x, true) := by
  unfold DistOfR
  rw [Int.toNat_natCast, if_pos ⟨⟨by omega, by omega⟩, h3, h4⟩]

section
variable {s : ByteArray} {most : Nat} {f1 : Nat → Int} {n1 : Nat} {f2 : Nat → Int} {n2 : Nat} {m p : Nat} {O : List Int}
theorem syms_err {c : Nat} (h : symE s f1 n1 p = .error c) : symbolsF s most f1 n1 f2 n2 (m + 1) p O = .error c := by
  rw [symbolsF, h]
theorem syms_end {p1 : Nat} (h : symE s f1 n1 p = .ok (256, p1)) : symbolsF s most f1 n1 f2 n2 (m + 1) p O = .ok (O, p1) := by
  rw [symbolsF, h]
  rfl
theorem syms_byte {y p1 : Nat} (h : symE s f1 n1 p = .ok (y, p1)) (hy : y < 256) : symbolsF s most f1 n1 f2 n2 (m + 1) p O = if O.length = most then .error 8 else symbolsF s most f1 n1 f2 n2 m p1 (O ++ [(y : Int)]) := by
  rw [symbolsF, h]
  show (if y = 256 then _ else if y < 256 then _ else _) = _
  rw [if_neg (by omega), if_pos hy]
theorem syms_over {y p1 : Nat} (h : symE s f1 n1 p = .ok (y, p1)) (hy : 285 < y) : symbolsF s most f1 n1 f2 n2 (m + 1) p O = .error 6 := by
  rw [symbolsF, h]
  show (if y = 256 then _ else if y < 256 then _ else if 285 < y then _ else _) = _
  rw [if_neg (by omega), if_neg (by omega), if_pos hy]
/-- What is left behind a symbol of a length. -/
noncomputable def farE (s : ByteArray) (most : Nat) (f1 : Nat → Int) (n1 : Nat) (f2 : Nat → Int) (n2 m y p1 : Nat) (O : List Int) : Except Nat (List Int × Nat) :=
  match takeE s p1 (lenBits y).1 with
        | .error x => .error x
        | .ok (x, p2) => match symE s f2 n2 p2 with
          | .error x => .error x
          | .ok (q, p3) =>
            if 29 < q then .error 6
            else match takeE s p3 (distBits q).1 with
              | .error x => .error x
              | .ok (z, p4) =>
                if (O.length : Int) < (distBits q).2 + z then .error 7
                else if (most : Int) - O.length < (lenBits y).2 + x then .error 8
                else symbolsF s most f1 n1 f2 n2 m p4 (copyN ((distBits q).2 + z).toNat ((lenBits y).2 + x).toNat O)
theorem syms_far {y p1 : Nat} (h : symE s f1 n1 p = .ok (y, p1)) (h1 : 257 ≤ y) (h2 : y ≤ 285) : symbolsF s most f1 n1 f2 n2 (m + 1) p O = farE s most f1 n1 f2 n2 m y p1 O := by
  rw [symbolsF, h]
  show (if y = 256 then _ else if y < 256 then _ else if 285 < y then _ else _) = _
  rw [if_neg (by omega), if_neg (by omega), if_neg (by omega)]
  rfl
theorem far_err {y p1 c : Nat} (h : takeE s p1 (lenBits y).1 = .error c) : farE s most f1 n1 f2 n2 m y p1 O = .error c := by
  rw [farE, h]
theorem far_err2 {y p1 p2 c : Nat} {x : Int} (h : takeE s p1 (lenBits y).1 = .ok (x, p2)) (h2 : symE s f2 n2 p2 = .error c) : farE s most f1 n1 f2 n2 m y p1 O = .error c := by
  rw [farE, h]
  simp only [h2]
theorem far_over {y p1 p2 q p3 : Nat} {x : Int} (h : takeE s p1 (lenBits y).1 = .ok (x, p2)) (h2 : symE s f2 n2 p2 = .ok (q, p3)) (hq : 29 < q) : farE s most f1 n1 f2 n2 m y p1 O = .error 6 := by
  rw [farE, h]
  simp only [h2]
  rw [if_pos hq]
theorem far_err3 {y p1 p2 q p3 c : Nat} {x : Int} (h : takeE s p1 (lenBits y).1 = .ok (x, p2)) (h2 : symE s f2 n2 p2 = .ok (q, p3)) (hq : ¬ 29 < q) (h3 : takeE s p3 (distBits q).1 = .error c) : farE s most f1 n1 f2 n2 m y p1 O = .error c := by
  rw [farE, h]
  simp only [h2]
  rw [if_neg hq, h3]
theorem far_go {y p1 p2 q p3 p4 : Nat} {x z : Int} (h : takeE s p1 (lenBits y).1 = .ok (x, p2)) (h2 : symE s f2 n2 p2 = .ok (q, p3)) (hq : ¬ 29 < q) (h3 : takeE s p3 (distBits q).1 = .ok (z, p4)) : farE s most f1 n1 f2 n2 m y p1 O = if (O.length : Int) < (distBits q).2 + z then .error 7 else if (most : Int) - O.length < (lenBits y).2 + x then .error 8 else symbolsF s most f1 n1 f2 n2 m p4 (copyN ((distBits q).2 + z).toNat ((lenBits y).2 + x).toNat O) := by
  rw [farE, h]
  simp only [h2]
  rw [if_neg hq, h3]
end
end Go.Proofs.YtbcnlggkoidmmaaGreatDoor

namespace Go.Proofs.YtbcnlggkoidmmaaGreatDoor
open Go.RowKit Go.Joins OutMath CodeMath TakeMath HitMath WayMath StepMath TokMath BookMath InfMath

/-- What a length comes to behind its symbol. -/
noncomputable def lenE (s : ByteArray) (y p : Nat) : Except Nat (Int × Nat) := if 285 < y then .error 6 else match takeE s p (lenBits y).1 with
  | .error c => .error c
  | .ok (x, p2) => .ok ((lenBits y).2 + x, p2)
/-- What a distance comes to. -/
noncomputable def distE (s : ByteArray) (f : Nat → Int) (n p : Nat) : Except Nat (Int × Nat) := match symE s f n p with
  | .error c => .error c
  | .ok (q, p3) => if 29 < q then .error 6 else match takeE s p3 (distBits q).1 with
    | .error c => .error c
    | .ok (z, p4) => .ok ((distBits q).2 + z, p4)
theorem syms_piece {s : ByteArray} {most : Nat} {f1 : Nat → Int} {n1 : Nat} {f2 : Nat → Int} {n2 m p : Nat} {O : List Int} {y p1 : Nat} (h : symE s f1 n1 p = .ok (y, p1)) (h1 : 257 ≤ y) : symbolsF s most f1 n1 f2 n2 (m + 1) p O = match lenE s y p1 with
    | .error c => .error c
    | .ok (T, p2) => match distE s f2 n2 p2 with
      | .error c => .error c
      | .ok (D, p4) => if (O.length : Int) < D then .error 7 else if (most : Int) - O.length < T then .error 8 else symbolsF s most f1 n1 f2 n2 m p4 (copyN D.toNat T.toNat O) := by
  by_cases h2 : 285 < y
  · rw [syms_over h h2]
    unfold lenE
    rw [if_pos h2]
  · rw [syms_far h h1 (by omega)]
    unfold lenE
    rw [if_neg h2]
    cases e1 : takeE s p1 (lenBits y).1 with
    | error c => rw [far_err e1]
    | ok r =>
      obtain ⟨x, p2⟩ := r
      dsimp only
      unfold distE
      cases e2 : symE s f2 n2 p2 with
      | error c => rw [far_err2 e1 e2]
      | ok r2 =>
        obtain ⟨q, p3⟩ := r2
        dsimp only
        by_cases hq : 29 < q
        · rw [far_over e1 e2 hq, if_pos hq]
        · rw [if_neg hq]
          cases e3 : takeE s p3 (distBits q).1 with
          | error c => rw [far_err3 e1 e2 hq e3]
          | ok r3 =>
            obtain ⟨z, p4⟩ := r3
            rw [far_go e1 e2 hq e3]
/-- What taking a number leaves. -/
def NumPost (B : Nat) (w : World) (fb rb : Nat) (s : ByteArray) (O : List Int) (most : Nat) (Ty : List Int) (vo vt : Value) (hi : Nat) (res : Except Nat (Int × Nat)) (e : Ending) (w' : World) : Prop :=
  Step fb rb w vo vt w' vo vt ∧ ((∃ (x p' : Nat), res = .ok ((x : Int), p') ∧ p' ≤ 8 * s.size ∧ 1 ≤ x ∧ x ≤ hi ∧ e = .returned (.tuple #[.int .i64 (x : Int), .nilIface]) ∧ PS B w' fb rb s p' O most Ty vo vt) ∨
  (∃ c, res = .error c ∧ e = .returned (.tuple #[.int .i64 0, errV c])))
theorem wf_piece {x : Int} (h0 : 0 ≤ x) (h1 : x ≤ 1000000) : (Lit.int .i64 x).wf = true := by
  simp [Lit.wf, IntKind.min, IntKind.max, IntKind.bits, IntKind.signed]
  omega
theorem implLenBits (y : Nat) (w : World) (h1 : 257 ≤ y) (h2 : y ≤ 285) :
    Calls Tryz.prog 184 #[.int .i64 (y : Int)] w fun e w' => e = .returned (.int .i64 ((lenBits y).1 : Int)) ∧ w' = w := by
  by_cases h : y = 285
  · subst h
    exact lengthBits_last w
  · have hk := lengthBits_any (y - 257) w (by omega)
    rw [show (257 : Int) + ((y - 257 : Nat) : Int) = (y : Int) by omega] at hk
    have e : (lenBits y).1 = (y - 257) / 4 - 1 := by
      unfold lenBits
      rw [if_neg h]
      show (y - 257 - 4) / 4 = _
      omega
    rw [e]
    exact hk
theorem implDistBits (q : Nat) (w : World) (h2 : q ≤ 29) :
    Calls Tryz.prog 186 #[.int .i64 (q : Int)] w fun e w' => e = .returned (.int .i64 ((distBits q).1 : Int)) ∧ w' = w := by
  have hk := distBits_any q w (by omega)
  have e : (distBits q).1 = q / 2 - 1 := by
    show (q - 2) / 2 = _
    omega
  rw [e]
  exact hk
section
variable (B : Nat) (w : World) (fb rb : Nat) (s : ByteArray) (p : Nat) (O : List Int) (most : Nat) (Ty : List Int) (vo vt : Value)
theorem step_read {w w' : World} {fb rb : Nat} {vo vt : Value} (h : w.grownBy w' (some rb)) : Step fb rb w vo vt w' vo vt := Step.one h (fun k e => .inr (.inl (by cases e; rfl)))
set_option maxHeartbeats 800000 in
theorem takeLength_any (h : PS B w fb rb s p O most Ty vo vt) (hs : s.size ≤ 12000) (hp : p ≤ 8 * s.size) (y : Nat) (hy : 257 ≤ y) (hy2 : y ≤ 288) :
    Calls Tryz.prog 179 #[.pointer (some ⟨fb, 0, none⟩), .int .i64 (y : Int)] w (NumPost B w fb rb s O most Ty vo vt 300 (lenE s y p)) := by
  by_cases h1 : 285 < y
  · have d1 : decide ((285 : Int) < (y : Int)) = true := decide_eq_true (by omega)
    have HP : Hid (NumPost B w fb rb s O most Ty vo vt 300 (lenE s y p) (.returned (.tuple #[.int .i64 0, errV 6])) w) := ⟨Step.refl w, .inr ⟨6, by unfold lenE; rw [if_pos h1], rfl⟩⟩
    clear h
    go_enter Tryz.func179, Tryz.ntmps179
    go_wp2_with fail
    go_ret2
    exact HP.out
  · have d1 : decide ((285 : Int) < (y : Int)) = false := decide_eq_false (by omega)
    have hlb := implLenBits y w hy (by omega)
    have hsm := lenBits_small hy (show y ≤ 285 by omega)
    by_cases h2 : p + (lenBits y).1 ≤ 8 * s.size
    · have htk := take_yes B w fb rb s p O most Ty vo vt h hs (lenBits y).1 (by omega) h2
      have hnb : 0 ≤ num s p (lenBits y).1 ∧ num s p (lenBits y).1 < 2 ^ (lenBits y).1 := num_bd s p (lenBits y).1
      have hof := fun w => lengthOf_answer (y : Int) (num s p (lenBits y).1) w (wf_piece (by omega) (by omega)) (wf_piece (by omega) (by have := hsm.2.2; omega))
      rw [len_of hy (by omega) hnb.1 hnb.2] at hof
      dsimp only at hof
      obtain ⟨T, hT⟩ := Int.eq_ofNat_of_zero_le (show 0 ≤ ((lenBits y).2 : Int) + num s p (lenBits y).1 by omega)
      rw [hT] at hof
      have HP : Hid (∀ w' w'', w.grownBy w' (some rb) → PS B w' fb rb s (p + (lenBits y).1) O most Ty vo vt → Below w'.heap.size w' w'' → NumPost B w fb rb s O most Ty vo vt 300 (lenE s y p) (.returned (.tuple #[.int .i64 (T : Int), .nilIface])) w'') := fun w' w'' q1 q2 q3 => by
        refine ⟨(step_read q1).trans (Step.called q3), .inl ⟨T, p + (lenBits y).1, ?_, h2, by omega, by have := hsm.2.2; omega, rfl, q2.called q3⟩⟩
        unfold lenE takeE
        rw [if_neg h1, if_pos h2]
        dsimp only
        rw [hT]
      clear h hsm hnb hT
      generalize num s p (lenBits y).1 = x at *
      generalize (lenBits y).1 = b at *
      go_enter Tryz.func179, Tryz.ntmps179
      go_wp2_with fail
      refine hlb.mono ?_
      rintro e w1 ⟨rfl, rfl⟩
      clear hlb
      go_wp2_with fail
      refine htk.mono ?_
      rintro e w2 ⟨rfl, q1, q2⟩
      have HQ := hid_of (HP.out w2 · q2 q1)
      clear htk q1 q2 HP
      go_wp2_with fail
      refine (hof _).mono ?_
      rintro e w3 ⟨rfl, q3⟩
      have HR := hid_of (HQ.out w3 q3)
      clear hof q3 HQ
      go_wp2_with fail
      go_ret2
      exact HR.out
    · have htk := take_no B w fb rb s p O most Ty vo vt h hs hp (lenBits y).1 (by omega) h2
      have HP : Hid (∀ w', w.grownBy w' (some rb) → NumPost B w fb rb s O most Ty vo vt 300 (lenE s y p) (.returned (.tuple #[.int .i64 0, errV 2])) w') := fun w' q1 => by
        refine ⟨step_read q1, .inr ⟨2, ?_, rfl⟩⟩
        unfold lenE takeE
        rw [if_neg h1, if_neg h2]
      clear h hsm
      generalize (lenBits y).1 = b at *
      go_enter Tryz.func179, Tryz.ntmps179
      go_wp2_with fail
      refine hlb.mono ?_
      rintro e w1 ⟨rfl, rfl⟩
      clear hlb
      go_wp2_with fail
      refine htk.mono ?_
      rintro e w2 ⟨rfl, q1, q2⟩
      have HQ := hid_of (HP.out w2 q2)
      clear htk q1 q2 HP
      go_wp2_with fail
      go_ret2
      exact HQ.out
variable (S C bk : Nat) (V : Nat → Value) (f : Nat → Int) (n : Nat)
set_option maxHeartbeats 800000 in
theorem takeDist_any (h : PS B w fb rb s p O most Ty vo vt) (hs : s.size ≤ 12000) (hp : p ≤ 8 * s.size) (hB : Book w S C bk V f n) (hH : Held w fb rb vo vt S C) (hn : n ≤ 288) (hok : OkLens f n) (hroom : nx f n 15 ≤ 32768) :
    Calls Tryz.prog 180 #[.pointer (some ⟨fb, 0, none⟩), .pointer (some ⟨bk, 0, none⟩)] w (NumPost B w fb rb s O most Ty vo vt 40000 (distE s f n p)) := by
  have hsy := takeSymbol_any B w fb rb s p O most Ty vo vt S C bk V f n h hs hp hB hH hn hok hroom
  clear h hB hH hok hroom
  go_enter Tryz.func180, Tryz.ntmps180
  go_wp2_with fail
  refine hsy.mono ?_
  clear hsy
  rintro e w1 ⟨hst, ⟨q, p3, hsE, hlt, hp3, hqn, rfl, hps⟩ | ⟨c, hsE, rfl⟩⟩
  · by_cases h1 : 29 < q
    · have d1 : decide ((29 : Int) < (q : Int)) = true := decide_eq_true (by omega)
      have HP : Hid (NumPost B w fb rb s O most Ty vo vt 40000 (distE s f n p) (.returned (.tuple #[.int .i64 0, errV 6])) w1) := ⟨hst, .inr ⟨6, by unfold distE; rw [hsE]; dsimp only; rw [if_pos h1], rfl⟩⟩
      clear hst hps
      go_wp2_with fail
      go_ret2
      exact HP.out
    · have d1 : decide ((29 : Int) < (q : Int)) = false := decide_eq_false (by omega)
      have hlb := implDistBits q w1 (by omega)
      have hsm := distBits_small (show q ≤ 29 by omega)
      by_cases h2 : p3 + (distBits q).1 ≤ 8 * s.size
      · have htk := take_yes B w1 fb rb s p3 O most Ty vo vt hps hs (distBits q).1 (by omega) h2
        have hnb : 0 ≤ num s p3 (distBits q).1 ∧ num s p3 (distBits q).1 < 2 ^ (distBits q).1 := num_bd s p3 (distBits q).1
        have hof := fun w => distOf_answer (q : Int) (num s p3 (distBits q).1) w (wf_piece (by omega) (by omega)) (wf_piece (by omega) (by have := hsm.2.2; omega))
        rw [dist_of (by omega) hnb.1 hnb.2] at hof
        dsimp only at hof
        obtain ⟨T, hT⟩ := Int.eq_ofNat_of_zero_le (show 0 ≤ ((distBits q).2 : Int) + num s p3 (distBits q).1 by omega)
        rw [hT] at hof
        have HP : Hid (∀ w' w'', w1.grownBy w' (some rb) → PS B w' fb rb s (p3 + (distBits q).1) O most Ty vo vt → Below w'.heap.size w' w'' → NumPost B w fb rb s O most Ty vo vt 40000 (distE s f n p) (.returned (.tuple #[.int .i64 (T : Int), .nilIface])) w'') := fun w' w'' q1 q2 q3 => by
          refine ⟨hst.trans ((step_read q1).trans (Step.called q3)), .inl ⟨T, p3 + (distBits q).1, ?_, h2, by omega, by have := hsm.2.2; omega, rfl, q2.called q3⟩⟩
          unfold distE takeE
          rw [hsE]
          dsimp only
          rw [if_neg h1, if_pos h2]
          dsimp only
          rw [hT]
        clear hst hps hsm hnb hT hsE
        generalize num s p3 (distBits q).1 = x at *
        generalize (distBits q).1 = b at *
        go_wp2_with fail
        refine hlb.mono ?_
        rintro e w1 ⟨rfl, rfl⟩
        clear hlb
        go_wp2_with fail
        refine htk.mono ?_
        rintro e w2 ⟨rfl, q1, q2⟩
        have HQ := hid_of (HP.out w2 · q2 q1)
        clear htk q1 q2 HP
        go_wp2_with fail
        refine (hof _).mono ?_
        rintro e w3 ⟨rfl, q3⟩
        have HR := hid_of (HQ.out w3 q3)
        clear hof q3 HQ
        go_wp2_with fail
        go_ret2
        exact HR.out
      · have htk := take_no B w1 fb rb s p3 O most Ty vo vt hps hs hp3 (distBits q).1 (by omega) h2
        have HP : Hid (∀ w', w1.grownBy w' (some rb) → NumPost B w fb rb s O most Ty vo vt 40000 (distE s f n p) (.returned (.tuple #[.int .i64 0, errV 2])) w') := fun w' q1 => by
          refine ⟨hst.trans (step_read q1), .inr ⟨2, ?_, rfl⟩⟩
          unfold distE takeE
          rw [hsE]
          dsimp only
          rw [if_neg h1, if_neg h2]
        clear hst hps hsm hsE
        generalize (distBits q).1 = b at *
        go_wp2_with fail
        refine hlb.mono ?_
        rintro e w1 ⟨rfl, rfl⟩
        clear hlb
        go_wp2_with fail
        refine htk.mono ?_
        rintro e w2 ⟨rfl, q1, q2⟩
        have HQ := hid_of (HP.out w2 q2)
        clear htk q1 q2 HP
        go_wp2_with fail
        go_ret2
        exact HQ.out
  · have HP : Hid (NumPost B w fb rb s O most Ty vo vt 40000 (distE s f n p) (.returned (.tuple #[.int .i64 0, errV c])) w1) := ⟨hst, .inr ⟨c, by unfold distE; rw [hsE], rfl⟩⟩
    clear hst
    go_wp2_with fail
    go_ret2
    exact HP.out
/-- What takePiece leaves behind the symbol of a length. -/
def FarPost (B : Nat) (w : World) (fb rb : Nat) (s : ByteArray) (y p : Nat) (O : List Int) (most : Nat) (Ty : List Int) (vo vt : Value) (f : Nat → Int) (n : Nat) (e : Ending) (w' : World) : Prop :=
  Step fb rb w vo vt w' vo vt ∧ ((∃ (T D p2 p4 : Nat), lenE s y p = .ok ((T : Int), p2) ∧ distE s f n p2 = .ok ((D : Int), p4) ∧ p4 ≤ 8 * s.size ∧ T ≤ 300 ∧ 1 ≤ D ∧ D ≤ 40000 ∧ e = .returned (.tuple #[.iface 174 (.agg #[.int .i64 (T : Int), .int .i64 (D : Int)]), .nilIface]) ∧ PS B w' fb rb s p4 O most Ty vo vt) ∨
  (∃ c, (lenE s y p = .error c ∨ ∃ T p2, lenE s y p = .ok (T, p2) ∧ distE s f n p2 = .error c) ∧ e = .returned (.tuple #[.nilIface, errV c])))
set_option maxHeartbeats 800000 in
theorem takePiece_far (h : PS B w fb rb s p O most Ty vo vt) (hs : s.size ≤ 12000) (hp : p ≤ 8 * s.size) (hB : Book w S C bk V f n) (hH : Held w fb rb vo vt S C) (hn : n ≤ 288) (hok : OkLens f n) (hroom : nx f n 15 ≤ 32768) (y : Nat) (hy : 257 ≤ y) (hy2 : y ≤ 288) :
    Calls Tryz.prog 168 #[.pointer (some ⟨fb, 0, none⟩), .int .i64 (y : Int), .pointer (some ⟨bk, 0, none⟩)] w (FarPost B w fb rb s y p O most Ty vo vt f n) := by
  have d0 : decide ((y : Int) < 256) = false := decide_eq_false (by omega)
  have htl := takeLength_any B w fb rb s p O most Ty vo vt h hs hp y hy hy2
  have HBB := hid_of hB
  have HHH := hid_of hH
  have HOK := hid_of hok
  have HRM := hid_of hroom
  clear h hB hH hok hroom
  go_enter Tryz.func168, Tryz.ntmps168
  go_wp2_with fail
  refine htl.mono ?_
  clear htl
  rintro e w1 ⟨hst, ⟨T, p2, hlE, hp2, hT1, hT2, rfl, hps⟩ | ⟨c, hlE, rfl⟩⟩
  · have htd := takeDist_any B w1 fb rb s p2 O most Ty vo vt S C bk V f n hps hs hp2 (HBB.out.step HHH.out hst) (HHH.out.step hst) hn HOK.out HRM.out
    have HLE := hid_of hlE
    have HST := hid_of hst
    clear hps hlE hst HBB HHH HOK HRM
    go_wp2_with fail
    refine htd.mono ?_
    clear htd
    rintro e w2 ⟨hst2, ⟨D, p4, hdE, hp4, hD1, hD2, rfl, hps2⟩ | ⟨c, hdE, rfl⟩⟩
    · have HP : Hid (FarPost B w fb rb s y p O most Ty vo vt f n (.returned (.tuple #[.iface 174 (.agg #[.int .i64 (T : Int), .int .i64 (D : Int)]), .nilIface])) w2) := ⟨HST.out.trans hst2, .inl ⟨T, D, p2, p4, HLE.out, hdE, hp4, hT2, hD1, hD2, rfl, hps2⟩⟩
      clear hst2 hdE hps2 HLE HST
      go_wp2_with fail
      go_ret2
      exact HP.out
    · have HP : Hid (FarPost B w fb rb s y p O most Ty vo vt f n (.returned (.tuple #[.nilIface, errV c])) w2) := ⟨HST.out.trans hst2, .inr ⟨c, .inr ⟨_, p2, HLE.out, hdE⟩, rfl⟩⟩
      clear hst2 hdE HLE HST
      go_wp2_with fail
      go_ret2
      exact HP.out
  · have HP : Hid (FarPost B w fb rb s y p O most Ty vo vt f n (.returned (.tuple #[.nilIface, errV c])) w1) := ⟨hst, .inr ⟨c, .inl hlE, rfl⟩⟩
    clear hst hlE
    go_wp2_with fail
    go_ret2
    exact HP.out
theorem takePiece_byte (fb bk : Nat) (w : World) (y : Nat) (hy : y < 256) :
    Calls Tryz.prog 168 #[.pointer (some ⟨fb, 0, none⟩), .int .i64 (y : Int), .pointer (some ⟨bk, 0, none⟩)] w fun e w' => e = .returned (.tuple #[.iface 172 (.int .u8 (y : Int)), .nilIface]) ∧ w' = w := by
  have d0 : decide ((y : Int) < 256) = true := decide_eq_true (by omega)
  go_enter Tryz.func168, Tryz.ntmps168
  go_wp2_with fail
  go_ret2
  exact ⟨rfl, rfl⟩
end
end Go.Proofs.YtbcnlggkoidmmaaGreatDoor
