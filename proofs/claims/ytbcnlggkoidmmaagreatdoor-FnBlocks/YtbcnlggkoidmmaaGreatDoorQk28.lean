/-
  The walk of BlockTypes in the document's model.
  The walks of the program's takeFixed, takeNone and takeBlock: a block, whole.
  The walks of the program's inflated and BlockTypes: unpacking, whole.
  The model's Inflate, where it ends well.
  The last byte of a text, read.
  The walks of the program's test of a right Out.
-/
import Derived.Test.YtbcnlggkoidmmaaGreatDoorQk06
import Derived.Test.YtbcnlggkoidmmaaGreatDoorQk13
import Derived.Test.YtbcnlggkoidmmaaGreatDoorQk03
import Derived.Test.YtbcnlggkoidmmaaGreatDoorQk16
import Derived.Test.YtbcnlggkoidmmaaGreatDoorQk26
import Derived.Test.YtbcnlggkoidmmaaGreatDoorQk17
import Derived.Test.YtbcnlggkoidmmaaGreatDoorRows
import Derived.Test.YtbcnlggkoidmmaaGreatDoorQk22
import Derived.Test.YtbcnlggkoidmmaaGreatDoorQk23
import Derived.Test.YtbcnlggkoidmmaaGreatDoorQk25
import Derived.Test.YtbcnlggkoidmmaaGreatDoorQk27
import Derived.Test.YtbcnlggkoidmmaaGreatDoorQk01
import Derived.Test.YtbcnlggkoidmmaaGreatDoorQk02
import Derived.Test.YtbcnlggkoidmmaaGreatDoorQk04
import Derived.Maps.AppendAt
import Derived.Deep.AppendLies
import Derived.Deep.RegionLaw
import Derived.Deep.LoopGhost
import Derived.WalkKit
import Derived.ProofKit
import Derived.WalkLawsBesides
import Derived.RegionTactic
import Derived.Deep.QuietTactic
import Derived.Below
import Derived.Laws.BytesArg
import Derived.Lib.SmallJoins
import Derived.BigQuiet
namespace Go.Proofs.YtbcnlggkoidmmaaGreatDoor
open Go.RowKit Go.Joins OutMath CodeMath TakeMath TokMath InfMath RunsMath

/-- What BlockTypes answers. -/
def TypesPost (w : World) (res : Except Nat (List Int × Nat × List Int)) (e : Ending) (w' : World) : Prop :=
  Below w.heap.size w w' ∧ ((∃ O p Ty a c, res = .ok (O, p, Ty) ∧ Ty.length ≤ 96000 ∧ e = .returned (.tuple #[.slice a Ty.length c, .bool true]) ∧ NumRow w' w.heap.size (.slice a Ty.length c) Ty) ∨ (∃ x a c, res = .error x ∧ e = .returned (.tuple #[.slice a 0 c, .bool false])))
end Go.Proofs.YtbcnlggkoidmmaaGreatDoor

namespace Go.Proofs.YtbcnlggkoidmmaaGreatDoor
open Go.RowKit Go.Joins OutMath CodeMath TakeMath HitMath WayMath StepMath TokMath BookMath InfMath RunsMath

theorem came_first {w : World} {K n : Nat} {a : Option Addr} {c : Nat} {f : Nat → Int} (h : NumRow w K (.slice a n c) (firstJ f n)) : Came w a n f := by
  obtain ⟨a', c', hv, _, _, hC, _⟩ := h.form
  rw [firstJ_length] at hv hC
  cases hv
  rcases hC with q | ⟨g, off, q1, q2, q3⟩
  · exact .inl q
  · refine .inr ⟨g, off, q1, q2, fun j hj => ?_⟩
    rw [q3 j hj]
    show some (Value.int .i64 ((firstJ f n).getD j 0)) = _
    rw [firstJ_getD f hj]
theorem block_fixed (s : ByteArray) (most p : Nat) (O : List Int) : blockP s most 1 p O = symbolsF s most fixed1 288 fixed2 32 (8 * s.size + 1) p O := by
  unfold blockP
  rw [if_neg (by decide), if_pos rfl]
theorem block_stored (s : ByteArray) (most p : Nat) (O : List Int) : blockP s most 0 p O = storedE s most p O := by
  unfold blockP
  rw [if_pos rfl]
theorem block_none (s : ByteArray) (most p : Nat) (O : List Int) : blockP s most 3 p O = .error 3 := by
  unfold blockP
  rw [if_neg (by decide), if_neg (by decide), if_neg (by decide)]
theorem blk_form {B : Nat} {w : World} {fb rb : Nat} {s : ByteArray} {most : Nat} {Ty : List Int} {vo vt : Value} {res : Except Nat (List Int × Nat)} {e : Ending} {w' : World} (h : BlkPost B w fb rb s most Ty vo vt res e w') : e = .returned .nilIface ∨ ∃ c, e = .returned (errV c) := by
  rcases h with ⟨_, _, _, _, _, _, y4, _⟩ | ⟨c, _, y2, _⟩
  · exact .inl y4
  · exact .inr ⟨c, y2⟩
/-- From a step on. -/
theorem blk_from {B : Nat} {w w1 : World} {fb rb : Nat} {s : ByteArray} {p : Nat} {O : List Int} {most : Nat} {Ty : List Int} {vo vt : Value} {res : Except Nat (List Int × Nat)} (hps : PS B w fb rb s p O most Ty vo vt) (st : Step fb rb w vo vt w1 vo vt) {e : Ending} {w' : World} (hP : BlkPost B w1 fb rb s most Ty vo vt res e w') : BlkPost B w fb rb s most Ty vo vt res e w' := by
  rcases hP with ⟨O', p', vo', y1, y2, y3, y4, y5, y6⟩ | ⟨c, y1, y2, y3⟩
  · exact .inl ⟨O', p', vo', y1, y2, y3, y4, y5, st.trans y6⟩
  · exact .inr ⟨c, y1, y2, (hps.below st).trans y3⟩
section
variable (B : Nat) (w : World) (fb rb : Nat) (s : ByteArray) (p : Nat) (O : List Int) (most : Nat) (Ty : List Int) (vo vt : Value)
set_option maxHeartbeats 1600000 in
theorem takeFixed_any (h : PS B w fb rb s p O most Ty vo vt) (hs : s.size ≤ 12000) (hp : p ≤ 8 * s.size) (hm : most ≤ 12000) (hO : O.length ≤ most) :
    Calls Tryz.prog 116 #[.pointer (some ⟨fb, 0, none⟩)] w (BlkPost B w fb rb s most Ty vo vt (blockP s most 1 p O)) := by
  have HPS := hid_of h
  rw [block_fixed]
  have hfx := implFixed w
  have htb := fun (w1 : World) (a1 : Option Addr) (c1 : Nat) (a2 : Option Addr) (c2 : Nat) (hb : Below w.heap.size w w1) (q1 : Came w1 a1 288 fixed1) (q2 : Came w1 a2 32 fixed2) => two_books B fb rb s p O most Ty vo vt a1 288 c1 fixed1 w1 q1 fixed1_coded a2 32 c2 fixed2 q2 fixed2_coded (h.called hb) hs hp hm hO
  clear h
  generalize symbolsF s most fixed1 288 fixed2 32 (8 * s.size + 1) p O = res at *
  go_enter Tryz.func116, Tryz.ntmps116
  go_wp2_with fail
  refine hfx.mono ?_
  clear hfx
  rintro e w1 ⟨a1, c1, a2, c2, K, rfl, r1, r2, _, b1, _⟩
  have htb1 := htb w1 a1 c1 a2 c2 b1 (came_first r1) (came_first r2)
  have HF : Hid (∀ e w', BlkPost B w1 fb rb s most Ty vo vt res e w' → BlkPost B w fb rb s most Ty vo vt res e w') := fun e w' hP => blk_from HPS.out (Step.called b1) hP
  clear htb r1 r2 b1 HPS
  go_wp2_with fail
  refine htb1.mono ?_
  clear htb1
  rintro e w7 ⟨b1, rfl, htb2⟩
  go_wp2_with fail
  refine htb2.mono ?_
  clear htb2
  rintro e w8 ⟨b2, rfl, htb3⟩
  go_wp2_with fail
  refine htb3.mono ?_
  clear htb3
  intro e w9 hP
  have HP := hid_of (HF.out e w9 hP)
  have hform := blk_form hP
  clear hP HF
  rcases hform with rfl | ⟨c, rfl⟩
  all_goals
    go_wp2_with fail
    go_ret
    exact HP.out
theorem takeNone_any (_h : PS B w fb rb s p O most Ty vo vt) :
    Calls Tryz.prog 118 #[.pointer (some ⟨fb, 0, none⟩)] w (BlkPost B w fb rb s most Ty vo vt (blockP s most 3 p O)) := by
  have HP : Hid (BlkPost B w fb rb s most Ty vo vt (blockP s most 3 p O) (.returned (errV 3)) w) := .inr ⟨3, block_none s most p O, rfl, Below.refl _ _⟩
  clear _h
  go_enter Tryz.func118, Tryz.ntmps118
  go_wp2_with fail
  go_ret
  exact HP.out
theorem store_func (W : World) (g o : Nat) (f : Fn) (xs ys : Array Value) (h1 : (W.cell? ⟨g, o, none⟩).isSome = true) (h2 : W.frozen? ⟨g, o, none⟩ = false) : (store ⟨g, o, none⟩ (Value.func f xs ys)).run Tryz.prog W = .ok () (W.setCell ⟨g, o, none⟩ (Value.func f xs ys)) := by
  rw [run_store _ _ _ _ _ rfl]
  cases e : W.cell? ⟨g, o, none⟩ with
  | none =>
    rw [e] at h1
    cases h1
  | some v =>
    dsimp only
    rw [h2]
    rfl
/-- What takeBlock leaves. -/
def TkbPost (B : Nat) (w : World) (fb rb : Nat) (s : ByteArray) (p : Nat) (O : List Int) (most : Nat) (Ty : List Int) (vo vt : Value) (e : Ending) (w' : World) : Prop :=
  (∃ O' p' vo' vt', p + 3 ≤ 8 * s.size ∧ blockP s most (num s (p + 1) 2) (p + 3) O = .ok (O', p') ∧ p' ≤ 8 * s.size ∧ O'.length ≤ most ∧ e = .returned (.tuple #[.bool (decide (num s p 1 = 1)), .nilIface]) ∧ PS B w' fb rb s p' O' most (Ty ++ [num s (p + 1) 2]) vo' vt' ∧ Step fb rb w vo vt w' vo' vt') ∨
  (∃ c x, (¬ p + 3 ≤ 8 * s.size ∧ c = 2 ∨ p + 3 ≤ 8 * s.size ∧ blockP s most (num s (p + 1) 2) (p + 3) O = .error c) ∧ e = .returned (.tuple #[.bool x, errV c]) ∧ Below B w w')
theorem head_of (s : ByteArray) (p : Nat) : num s p 3 / 2 = num s (p + 1) 2 ∧ num s p 3 % 2 = num s p 1 := by
  have h1 := num_split s p 1 2
  have b1 := num_bd s p 1
  have b2 := num_bd s (p + 1) 2
  rw [show p2 1 = 2 by decide +kernel] at h1 b1
  rw [show 1 + 2 = 3 from rfl] at h1
  omega
set_option maxRecDepth 100000 in
set_option maxHeartbeats 3200000 in
theorem takeBlock_any (h : PS B w fb rb s p O most Ty vo vt) (hs : s.size ≤ 12000) (hp : p ≤ 8 * s.size) (hm : most ≤ 12000) (hO : O.length ≤ most) (hG : OrderG w) (hGB : 0 < B) (hT : Ty.length ≤ 96000) :
    Calls Tryz.prog 81 #[.pointer (some ⟨fb, 0, none⟩)] w (TkbPost B w fb rb s p O most Ty vo vt) := by
  have HPS := hid_of h
  have HG := hid_of hG
  clear h hG
  by_cases h3 : p + 3 ≤ 8 * s.size
  · have htk := take_yes B w fb rb s p O most Ty vo vt HPS.out hs 3 (by omega) h3
    obtain ⟨e1, e2⟩ := head_of s p
    have q0 := num_bd s p 3
    rw [show p2 3 = 8 by decide +kernel] at q0
    have ea := and1 (num s p 3) q0.1 (by omega)
    rw [e2] at ea
    have HPO : Hid (∀ w' e', (∃ O' p' vo' vt', blockP s most (num s (p + 1) 2) (p + 3) O = .ok (O', p') ∧ p' ≤ 8 * s.size ∧ O'.length ≤ most ∧ e' = .returned (.tuple #[.bool (decide (num s p 1 = 1)), .nilIface]) ∧ PS B w' fb rb s p' O' most (Ty ++ [num s (p + 1) 2]) vo' vt' ∧ Step fb rb w vo vt w' vo' vt') ∨ (∃ c x, blockP s most (num s (p + 1) 2) (p + 3) O = .error c ∧ e' = .returned (.tuple #[.bool x, errV c]) ∧ Below B w w') → TkbPost B w fb rb s p O most Ty vo vt e' w') := fun w' e' q => by
      rcases q with ⟨O', p', vo', vt', y⟩ | ⟨c, x, y1, y2, y3⟩
      · exact .inl ⟨O', p', vo', vt', h3, y⟩
      · exact .inr ⟨c, x, .inr ⟨h3, y1⟩, y2, y3⟩
    have hlast : (num s p 1 = 0 ∨ num s p 1 = 1) := by
      have := num_bd s p 1
      rw [show p2 1 = 2 by decide +kernel] at this
      omega
    have hk4 : 0 ≤ num s (p + 1) 2 ∧ num s (p + 1) 2 < 4 := by
      have := num_bd s (p + 1) 2
      rw [show p2 2 = 4 by decide +kernel] at this
      exact this
    clear e2
    generalize num s p 3 = x at *
    generalize num s p 1 = l1 at *
    generalize num s (p + 1) 2 = k at *
    go_enter Tryz.func81, Tryz.ntmps81
    go_wp2_with fail
    refine htk.mono ?_
    clear htk
    rintro e w1 ⟨rfl, hS1, hg1⟩
    have HS1 := hid_of hS1
    have HT1 : Hid (Step fb rb w vo vt w1 vo vt) := step_read hg1
    have c3 := hS1.1.cells.2.2.2
    have hl1 := hS1.ltf
    obtain ⟨av, cv, hvt, _⟩ := hS1.2.2.2.1.form
    have hNR := hS1.2.2.2.1
    have hBl := hS1.2.2.2.2.2.2.2.2.2.2
    have HVT := hid_of hvt
    rw [hvt] at c3 hNR
    have HNR := hid_of hNR
    clear hS1 hg1 hNR hvt
    go_wp2_with (at_builtin; refine nums_append1 (S := B) (xs := Ty) rfl _ _ rfl rfl (World.ownsRow.alloc HNR.out _) w1.heap.size 1 k rfl (by simp) (by omega) (by simp; omega) ?_)
    intro v2 w2 y1 y2 y3
    have hgr : w1.grownBy w2 vt.ownBlock := by
      rw [HVT.out]
      exact (grown_called (bstart w1 _) _).trans y2
    have hmv : v2.ownBlock = vt.ownBlock ∨ ∀ k, v2.ownBlock = some k → w1.heap.size ≤ k := by
      rcases y3 with q | q
      · exact .inl (by rw [HVT.out]; exact q)
      · refine .inr (fun k e => ?_)
        rw [q] at e
        have := Option.some.inj e
        omega
    obtain ⟨k1, k2, k3⟩ := HS1.out.typed y1 hgr hmv
    have n3 := k1.cells.2.2.2
    have nf := k1.free 3
    have nl := k1.lt
    obtain ⟨a2, c2, hv2, _⟩ := y1.form
    rw [List.length_append, List.length_singleton] at hv2
    subst hv2
    have HS2 := hid_of k2
    have HT2 := hid_of (HT1.out.trans k3)
    clear HS1 HT1 HNR y1 y2 y3 hgr hmv k1 k2 k3 HVT c3
    have hst := fun (W : World) (o : Nat) (f : Fn) (xs ys : Array Value) => store_func W w2.heap.size o f xs ys
    have hG2 : OrderG (w2.setCell ⟨fb, 3, none⟩ (.slice a2 (Ty.length + 1) c2)) := HG.out.below (HPS.out.below HT2.out) hGB
    have HAL := hid_of (fun (o : Obj) => And.intro (HS2.out.called (bstart (w2.setCell ⟨fb, 3, none⟩ (.slice a2 (Ty.length + 1) c2)) o)) (And.intro (HT2.out.trans (Step.called (bstart (w2.setCell ⟨fb, 3, none⟩ (.slice a2 (Ty.length + 1) c2)) o))) (hG2.below ((bstart (w2.setCell ⟨fb, 3, none⟩ (.slice a2 (Ty.length + 1) c2)) o).mono HS2.out.2.2.2.2.2.2.2.2.2.2) hGB)))
    clear hG2 HG HS2 HT2
    have HFIN : Hid (∀ (w3 : World) (e : Ending) (w' : World), Step fb rb w vo vt w3 vo (.slice a2 (Ty.length + 1) c2) → BlkPost B w3 fb rb s most (Ty ++ [k]) vo (.slice a2 (Ty.length + 1) c2) (blockP s most k (p + 3) O) e w' → (e = .returned .nilIface ∧ TkbPost B w fb rb s p O most Ty vo vt (.returned (.tuple #[.bool (decide (l1 = 1)), .nilIface])) w') ∨ ∃ c, e = .returned (errV c) ∧ ∀ x, TkbPost B w fb rb s p O most Ty vo vt (.returned (.tuple #[.bool x, errV c])) w') := fun w3 e w' st hP => by
      rcases hP with ⟨O', p', vo', y1, y2, y3, y4, y5, y6⟩ | ⟨c, y1, y2, y3⟩
      · exact .inl ⟨y4, HPO.out w' _ (.inl ⟨O', p', vo', _, y1, y2, y3, rfl, y5, st.trans y6⟩)⟩
      · exact .inr ⟨c, y2, fun x => HPO.out w' _ (.inr ⟨c, x, y1, rfl, (HPS.out.below st).trans y3⟩)⟩
    have HCL : Hid (∀ w3, PS B w3 fb rb s (p + 3) O most (Ty ++ [k]) vo (.slice a2 (Ty.length + 1) c2) → OrderG w3 →
        (k = 0 → Calls Tryz.prog 115 #[.pointer (some ⟨fb, 0, none⟩)] w3 (BlkPost B w3 fb rb s most (Ty ++ [k]) vo (.slice a2 (Ty.length + 1) c2) (blockP s most k (p + 3) O))) ∧
        (k = 1 → Calls Tryz.prog 116 #[.pointer (some ⟨fb, 0, none⟩)] w3 (BlkPost B w3 fb rb s most (Ty ++ [k]) vo (.slice a2 (Ty.length + 1) c2) (blockP s most k (p + 3) O))) ∧
        (k = 2 → Calls Tryz.prog 117 #[.pointer (some ⟨fb, 0, none⟩)] w3 (BlkPost B w3 fb rb s most (Ty ++ [k]) vo (.slice a2 (Ty.length + 1) c2) (blockP s most k (p + 3) O))) ∧
        (k = 3 → Calls Tryz.prog 118 #[.pointer (some ⟨fb, 0, none⟩)] w3 (BlkPost B w3 fb rb s most (Ty ++ [k]) vo (.slice a2 (Ty.length + 1) c2) (blockP s most k (p + 3) O)))) := fun w3 hps hg => by
      refine ⟨fun e => ?_, fun e => ?_, fun e => ?_, fun e => ?_⟩
      · subst e
        rw [block_stored]
        exact takeStored_any B w3 fb rb s (p + 3) O most _ vo _ hps hs h3 hm hO
      · subst e
        exact takeFixed_any B w3 fb rb s (p + 3) O most _ vo _ hps hs h3 hm hO
      · subst e
        exact takeWoven_any B w3 fb rb s (p + 3) O most _ vo _ hps hs h3 hm hO hg hGB
      · subst e
        exact takeNone_any B w3 fb rb s (p + 3) O most _ vo _ hps
    clear HPO HPS
    rcases (show k = 0 ∨ k = 1 ∨ k = 2 ∨ k = 3 by omega) with hk | hk | hk | hk
    · have HC := hid_of (fun w3 q1 q2 => (HCL.out w3 q1 q2).1 hk)
      clear HCL
      generalize blockP s most k (p + 3) O = res at *
      subst hk
      rcases hlast with rfl | rfl
      all_goals
        go_wp2_with fail
        obtain ⟨z1, z2, z3⟩ := HAL.out (.cells #[.func (.func 115) #[.pointer (some ⟨fb, 0, none⟩)] #[], .func (.func 116) #[.pointer (some ⟨fb, 0, none⟩)] #[], .func (.func 117) #[.pointer (some ⟨fb, 0, none⟩)] #[], .func (.func 118) #[.pointer (some ⟨fb, 0, none⟩)] #[]] 190)
        refine (HC.out _ z1 z3).mono ?_
        intro e w4 hP
        have HE := hid_of (HFIN.out _ e w4 z2 hP)
        clear z1 z2 z3 hP HC HFIN HAL
        rcases HE.out with ⟨rfl, hE⟩ | ⟨c, rfl, hE⟩
        all_goals
          have HX := hid_of hE
          clear hE HE
          go_wp2_with fail
          go_ret2
          first | exact HX.out | exact HX.out _
    · have HC := hid_of (fun w3 q1 q2 => (HCL.out w3 q1 q2).2.1 hk)
      clear HCL
      generalize blockP s most k (p + 3) O = res at *
      subst hk
      rcases hlast with rfl | rfl
      all_goals
        go_wp2_with fail
        obtain ⟨z1, z2, z3⟩ := HAL.out (.cells #[.func (.func 115) #[.pointer (some ⟨fb, 0, none⟩)] #[], .func (.func 116) #[.pointer (some ⟨fb, 0, none⟩)] #[], .func (.func 117) #[.pointer (some ⟨fb, 0, none⟩)] #[], .func (.func 118) #[.pointer (some ⟨fb, 0, none⟩)] #[]] 190)
        refine (HC.out _ z1 z3).mono ?_
        intro e w4 hP
        have HE := hid_of (HFIN.out _ e w4 z2 hP)
        clear z1 z2 z3 hP HC HFIN HAL
        rcases HE.out with ⟨rfl, hE⟩ | ⟨c, rfl, hE⟩
        all_goals
          have HX := hid_of hE
          clear hE HE
          go_wp2_with fail
          go_ret2
          first | exact HX.out | exact HX.out _
    · have HC := hid_of (fun w3 q1 q2 => (HCL.out w3 q1 q2).2.2.1 hk)
      clear HCL
      generalize blockP s most k (p + 3) O = res at *
      subst hk
      rcases hlast with rfl | rfl
      all_goals
        go_wp2_with fail
        obtain ⟨z1, z2, z3⟩ := HAL.out (.cells #[.func (.func 115) #[.pointer (some ⟨fb, 0, none⟩)] #[], .func (.func 116) #[.pointer (some ⟨fb, 0, none⟩)] #[], .func (.func 117) #[.pointer (some ⟨fb, 0, none⟩)] #[], .func (.func 118) #[.pointer (some ⟨fb, 0, none⟩)] #[]] 190)
        refine (HC.out _ z1 z3).mono ?_
        intro e w4 hP
        have HE := hid_of (HFIN.out _ e w4 z2 hP)
        clear z1 z2 z3 hP HC HFIN HAL
        rcases HE.out with ⟨rfl, hE⟩ | ⟨c, rfl, hE⟩
        all_goals
          have HX := hid_of hE
          clear hE HE
          go_wp2_with fail
          go_ret2
          first | exact HX.out | exact HX.out _
    · have HC := hid_of (fun w3 q1 q2 => (HCL.out w3 q1 q2).2.2.2 hk)
      clear HCL
      generalize blockP s most k (p + 3) O = res at *
      subst hk
      rcases hlast with rfl | rfl
      all_goals
        go_wp2_with fail
        obtain ⟨z1, z2, z3⟩ := HAL.out (.cells #[.func (.func 115) #[.pointer (some ⟨fb, 0, none⟩)] #[], .func (.func 116) #[.pointer (some ⟨fb, 0, none⟩)] #[], .func (.func 117) #[.pointer (some ⟨fb, 0, none⟩)] #[], .func (.func 118) #[.pointer (some ⟨fb, 0, none⟩)] #[]] 190)
        refine (HC.out _ z1 z3).mono ?_
        intro e w4 hP
        have HE := hid_of (HFIN.out _ e w4 z2 hP)
        clear z1 z2 z3 hP HC HFIN HAL
        rcases HE.out with ⟨rfl, hE⟩ | ⟨c, rfl, hE⟩
        all_goals
          have HX := hid_of hE
          clear hE HE
          go_wp2_with fail
          go_ret2
          first | exact HX.out | exact HX.out _
  · have htk := take_no B w fb rb s p O most Ty vo vt HPS.out hs hp 3 (by omega) h3
    go_enter Tryz.func81, Tryz.ntmps81
    go_wp2_with fail
    refine htk.mono ?_
    clear htk
    rintro e w1 ⟨rfl, hS1, hg1⟩
    have HP : Hid (TkbPost B w fb rb s p O most Ty vo vt (.returned (.tuple #[.bool false, errV 2])) w1) := .inr ⟨2, false, .inl ⟨h3, rfl⟩, rfl, HPS.out.below (step_read hg1)⟩
    clear hS1 hg1 HPS HG
    go_wp2_with fail
    go_ret2
    exact HP.out
end
end Go.Proofs.YtbcnlggkoidmmaaGreatDoor

namespace Go.Proofs.YtbcnlggkoidmmaaGreatDoor
open Go.RowKit Go.Joins OutMath CodeMath TakeMath HitMath WayMath StepMath TokMath BookMath InfMath RunsMath

/-- What inflated leaves. -/
def InflPost (w : World) (s : ByteArray) (most : Int) (res : Except Nat (List Int × Nat × List Int)) (e : Ending) (w' : World) : Prop :=
  Below w.heap.size w w' ∧ ((∃ (O : List Int) (p : Nat) (Ty : List Int) (fb rb : Nat) (vo vt : Value) (n : Nat), res = .ok (O, p, Ty) ∧ p ≤ 8 * s.size ∧ Ty.length ≤ p ∧ s.size ≤ 12000 ∧ most = (n : Int) ∧ e = .returned (.tuple #[.pointer (some ⟨fb, 0, none⟩), .nilIface]) ∧ PS w.heap.size w' fb rb s p O n Ty vo vt) ∨ (∃ c, res = .error c ∧ e = .returned (.tuple #[.pointer none, errV c])))
/-- What its ring has at hand. -/
def IpRing (w0 : World) (fb rb : Nat) (s : ByteArray) (most : Nat) (res : Except Nat (List Int × Nat × List Int)) (m p : Nat) (O Ty : List Int) (vo vt : Value) (w' : World) : Prop :=
  PS w0.heap.size w' fb rb s p O most Ty vo vt ∧ Below w0.heap.size w0 w' ∧ OrderG w' ∧ p ≤ 8 * s.size ∧ O.length ≤ most ∧ Ty.length ≤ p ∧ 8 * s.size + 1 ≤ m + p ∧ res = blocksP s most m p O Ty
theorem blocksP_short {s : ByteArray} {most m p : Nat} {O Ty : List Int} (h : ¬ p + 3 ≤ 8 * s.size) : blocksP s most (m + 1) p O Ty = .error 2 := by
  rw [blocksP, if_neg h]
theorem blocksP_err {s : ByteArray} {most m p c : Nat} {O Ty : List Int} (h : p + 3 ≤ 8 * s.size) (e : blockP s most (num s (p + 1) 2) (p + 3) O = .error c) : blocksP s most (m + 1) p O Ty = .error c := by
  rw [blocksP, if_pos h, e]
theorem blocksP_go {s : ByteArray} {most m p : Nat} {O Ty O' : List Int} {p' : Nat} (h : p + 3 ≤ 8 * s.size) (e : blockP s most (num s (p + 1) 2) (p + 3) O = .ok (O', p')) : blocksP s most (m + 1) p O Ty = if num s p 1 = 0 then blocksP s most m p' O' (Ty ++ [num s (p + 1) 2]) else .ok (O', p', Ty ++ [num s (p + 1) 2]) := by
  rw [blocksP, if_pos h, e]
theorem blockP_go {s : ByteArray} {most : Nat} {k : Int} {p : Nat} {O O' : List Int} {p' : Nat} (h : blockP s most k p O = .ok (O', p')) : p ≤ p' := by
  rcases block_alike s most k p O with ⟨r, q1, q2⟩ | ⟨c, c', q1, q2⟩
  · rw [h] at q1
    cases q1
    exact block_go q2
  · rw [h] at q1
    cases q1
set_option maxRecDepth 100000 in
set_option maxHeartbeats 3200000 in
theorem inflated_in (s : ByteArray) (most : Nat) (w : World) (hs : s.size ≤ 12000) (hm : most ≤ 12000) (hG : OrderG w) :
    Calls Tryz.prog 39 #[.string s, .int .i64 (most : Int)] w (InflPost w s most (blocksP s most (8 * s.size + 1) 0 [] [])) := by
  have d1 : decide ((12000 : Int) < (s.size : Int)) = false := decide_eq_false (by omega)
  have d2 : decide (12000 < s.size) = false := decide_eq_false (by omega)
  have d3 : decide ((12000 : Int) < (most : Int)) = false := decide_eq_false (by omega)
  have d4 : decide (12000 < most) = false := decide_eq_false (by omega)
  have d5 : decide ((most : Int) < 0) = false := decide_eq_false (by omega)
  obtain ⟨res, hres⟩ : ∃ res, res = blocksP s most (8 * s.size + 1) 0 [] [] := ⟨_, rfl⟩
  rw [← hres]
  have hGB := hG.1
  have H0 : Hid (IpRing w (w.heap.size + 1) w.heap.size s most res (8 * s.size + 1) 0 [] [] (.slice none 0 0) (.slice none 0 0) ((w.alloc (.cells #[.string s, .int .i64 0] 84)).alloc (.cells #[.pointer (some ⟨w.heap.size, 0, none⟩), .slice none 0 0, .int .i64 (most : Int), .slice none 0 0] 81))) := by
    have hsz : (w.alloc (.cells #[.string s, .int .i64 0] 84)).heap.size = w.heap.size + 1 := World.size_alloc _ _
    have hb : Below w.heap.size w ((w.alloc (.cells #[.string s, .int .i64 0] 84)).alloc (.cells #[.pointer (some ⟨w.heap.size, 0, none⟩), .slice none 0 0, .int .i64 (most : Int), .slice none 0 0] 81)) := bal (bstart w _) _
    refine ⟨⟨?_, ?_, OR.nil _ _, NumRow.nil _ _, .inl rfl, ⟨by simp [Value.ownBlock], by simp [Value.ownBlock]⟩, ⟨by simp [Value.ownBlock], by simp [Value.ownBlock]⟩, by omega, by omega, Nat.le_refl _, hb.size⟩, hb, hG.below hb hGB, by omega, by simp, by simp, by omega, hres⟩
    · have h := heap_alloc_new (w.alloc (.cells #[.string s, .int .i64 0] 84)) (.cells #[.pointer (some ⟨w.heap.size, 0, none⟩), .slice none 0 0, .int .i64 (most : Int), .slice none 0 0] 81)
      rw [hsz] at h
      exact h
    · exact (Below.heap_alloc _ _ _ (by simp)).trans (heap_alloc_new w _)
  clear hres hG
  go_enter Tryz.func39, Tryz.ntmps39
  go_wp2_with fail
  generalize World.alloc (w.alloc _) _ = W at H0
  go_loopg [] (8 * s.size + 2) (fun gk w' => ∃ (m p : Nat) (O Ty : List Int) (vo vt : Value), m ≤ gk ∧ Hid (IpRing w (w.heap.size + 1) w.heap.size s most res m p O Ty vo vt w'))
  case atStart => exact ⟨8 * s.size + 1, 0, [], [], _, _, by omega, H0⟩
  case round =>
    clear H0
    obtain ⟨m, p, O, Ty, vo, vt, hgk, hR⟩ := hrel
    obtain ⟨m1, rfl⟩ : ∃ m1, m = m1 + 1 := ⟨m - 1, by have := hR.out.2.2.2.1; have := hR.out.2.2.2.2.2.2.1; omega⟩
    have htb := takeBlock_any w.heap.size wr (w.heap.size + 1) w.heap.size s p O most Ty vo vt hR.out.1 hs hR.out.2.2.2.1 hm hR.out.2.2.2.2.1 hR.out.2.2.1 hGB (by have := hR.out.2.2.2.1; have := hR.out.2.2.2.2.2.1; omega)
    go_wp2_with fail
    refine htb.mono ?_
    clear htb
    rintro e w1 (⟨O', p', vo', vt', h3, hbk, hp', hO', rfl, hps, hst⟩ | ⟨c, x, hcc, rfl, hbl⟩)
    · have hgo := blocksP_go (m := m1) (Ty := Ty) h3 hbk
      have hmo := blockP_go hbk
      have hb1 := hR.out.2.1.trans (hR.out.1.below hst)
      have hog : OrderG w1 := hR.out.2.2.1.below (hR.out.1.below hst) hGB
      have hTl : (Ty ++ [num s (p + 1) 2]).length ≤ p' := by
        have := hR.out.2.2.2.2.2.1
        rw [List.length_append, List.length_singleton]
        omega
      have hl01 : num s p 1 = 0 ∨ num s p 1 = 1 := by
        have := num_bd s p 1
        rw [show p2 1 = 2 by decide +kernel] at this
        omega
      have hres := hR.out.2.2.2.2.2.2.2.trans hgo
      have hmp := hR.out.2.2.2.2.2.2.1
      rcases hl01 with h0 | h0
      · rw [h0, if_pos rfl] at hres
        have HN : Hid (IpRing w (w.heap.size + 1) w.heap.size s most res m1 p' O' (Ty ++ [num s (p + 1) 2]) vo' vt' w1) := ⟨hps, hb1, hog, hp', hO', hTl, by omega, hres⟩
        rw [h0, show decide ((0 : Int) = 1) = false from rfl]
        clear hR hps hst hb1 hog hres hgo hbk hTl h0
        go_wp2_with fail
        go_roundg m1
        case measure => omega
        case rel => exact ⟨m1, p', O', _, vo', vt', Nat.le_refl _, HN⟩
      · rw [h0, if_neg (by decide)] at hres
        have HP : Hid (InflPost w s most res (.returned (.tuple #[.pointer (some ⟨w.heap.size + 1, 0, none⟩), .nilIface])) w1) := ⟨hb1, .inl ⟨O', p', _, _, _, vo', vt', most, hres, hp', hTl, hs, rfl, rfl, hps⟩⟩
        rw [h0, show decide ((1 : Int) = 1) = true from rfl]
        clear hR hps hst hb1 hog hres hgo hbk hTl h0
        go_wp2_with fail
        go_ret2
        exact HP.out
    · have HP : Hid (InflPost w s most res (.returned (.tuple #[.pointer none, errV c])) w1) := by
        refine ⟨hR.out.2.1.trans hbl, .inr ⟨c, hR.out.2.2.2.2.2.2.2.trans ?_, rfl⟩⟩
        rcases hcc with ⟨q1, q2⟩ | ⟨q1, q2⟩
        · rw [q2]
          exact blocksP_short q1
        · exact blocksP_err q1 q2
      clear hR hcc hbl
      go_wp2_with fail
      go_ret2
      exact HP.out
theorem inflated_long (s : ByteArray) (most : Int) (w : World) (hs : s.size ≤ 1048576) (h : ¬ (s.size ≤ 12000 ∧ 0 ≤ most ∧ most ≤ 12000)) :
    Calls Tryz.prog 39 #[.string s, .int .i64 most] w (InflPost w s most (.error 1)) := by
  have HP : Hid (InflPost w s most (.error 1) (.returned (.tuple #[.pointer none, errV 1])) w) := ⟨Below.refl _ _, .inr ⟨1, rfl, rfl⟩⟩
  by_cases h1 : 12000 < s.size
  · have d1 : decide ((12000 : Int) < (s.size : Int)) = true := decide_eq_true (by omega)
    have d2 : decide (12000 < s.size) = true := decide_eq_true h1
    go_enter Tryz.func39, Tryz.ntmps39
    go_wp2_with fail
    go_ret2
    exact HP.out
  · have d1 : decide ((12000 : Int) < (s.size : Int)) = false := decide_eq_false (by omega)
    have d2 : decide (12000 < s.size) = false := decide_eq_false h1
    by_cases h2 : most < 0
    · have d3 : decide (most < 0) = true := decide_eq_true h2
      go_enter Tryz.func39, Tryz.ntmps39
      go_wp2_with fail
      go_ret2
      exact HP.out
    · have d3 : decide (most < 0) = false := decide_eq_false h2
      have d4 : decide (12000 < most) = true := decide_eq_true (by omega)
      go_enter Tryz.func39, Tryz.ntmps39
      go_wp2_with fail
      go_ret2
      exact HP.out
theorem inflated_any (s : ByteArray) (most : Int) (w : World) (hs : s.size ≤ 1048576) (hG : OrderG w) :
    Calls Tryz.prog 39 #[.string s, .int .i64 most] w (InflPost w s most (inflateP s most)) := by
  unfold inflateP
  by_cases h : s.size ≤ 12000 ∧ 0 ≤ most ∧ most ≤ 12000
  · rw [if_pos h]
    obtain ⟨n, rfl⟩ := Int.eq_ofNat_of_zero_le h.2.1
    exact inflated_in s n w h.1 (by omega) hG
  · rw [if_neg h]
    exact inflated_long s most w hs h
/-- What the program's BlockTypes answers. -/
theorem implTypes_any (s : ByteArray) (most : Int) (w : World) (hs : s.size ≤ 1048576) (hG : OrderG w) :
    Calls Tryz.prog 14 #[.string s, .int .i64 most] w (TypesPost w (inflateP s most)) := by
  have hi := inflated_any s most w hs hG
  generalize inflateP s most = res at *
  go_enter Tryz.func14, Tryz.ntmps14
  go_wp2_with fail
  refine hi.mono ?_
  clear hi
  rintro e w1 ⟨hB, ⟨O, p, Ty, fb, rb, vo, vt, n, hr, hp, hT, hsz, hmo, rfl, hps⟩ | ⟨c, hr, rfl⟩⟩
  · have c3 := hps.1.cells.2.2.2
    have hl := hps.ltf
    obtain ⟨av, cv, hv, _⟩ := hps.2.2.2.1.form
    subst hv
    have HP : Hid (TypesPost w res (.returned (.tuple #[.slice av Ty.length cv, .bool true])) w1) := ⟨hB, .inl ⟨O, p, Ty, av, cv, hr, by omega, rfl, hps.2.2.2.1⟩⟩
    clear hps hB hr
    go_wp2_with fail
    go_ret2
    exact HP.out
  · have HP : Hid (TypesPost w res (.returned (.tuple #[.slice none 0 0, .bool false])) w1) := ⟨hB, .inr ⟨c, none, 0, hr, rfl⟩⟩
    clear hB hr
    go_wp2_with fail
    go_ret2
    exact HP.out
end Go.Proofs.YtbcnlggkoidmmaaGreatDoor

namespace Go.Proofs.YtbcnlggkoidmmaaGreatDoor
open Go.RowKit Go.Joins TokMath InfMath

theorem or_text {w : World} {base : Nat} {vo : Value} {O : List Int} (h : OR w base vo O) (W : World) (hW : ∀ g, g < w.heap.size → W.heap[g]? = w.heap[g]?) : (convert 22 9 vo).run Tryz.prog W = .ok (.string (strOfNums O)) W := by
  rcases h.2 with ⟨rfl, h0⟩ | ⟨g, cap, cur, rfl, hb, hg, hc, hm, hs, ht⟩
  · obtain rfl : O = [] := List.eq_nil_of_length_eq_zero h0
    exact run_convert_bytes_nil W 22 5 Tryz.underlying22 Tryz.underlying5 0 0 9 Tryz.underlying9
  · refine run_convert_bytes_arg W 22 5 Tryz.underlying22 Tryz.underlying5 g 0 O.length cap O rfl (fun i hi => ?_) 9 Tryz.underlying9
    rw [Nat.zero_add, World.cell?_of_block (a := ⟨g, i, none⟩) (hW g (block_lt hg)), h.cellAt i (by omega)]
    unfold u8l
    rw [List.getElem?_map, List.getElem?_eq_getElem hi, List.getD_eq_getElem?_getD, List.getElem?_eq_getElem hi]
    rfl
end Go.Proofs.YtbcnlggkoidmmaaGreatDoor

namespace Go.Proofs.YtbcnlggkoidmmaaGreatDoor
open Go.RowKit Go.Joins OutMath

theorem index_last (s : ByteArray) (h : 0 < s.size) (w : World) : (Instr.index 9 (.string s) (.int .i64 ((s.size : Int) - 1))).run Tryz.prog w = .ok (.int .u8 (last s)) w := by
  rw [run_index_string w 9 s .i64 _ Tryz.underlying9, dif_pos ⟨by omega, by omega⟩]
  have e : ((s.size : Int) - 1).toNat = s.size - 1 := by omega
  simp only [e]
  rw [last_at]

end Go.Proofs.YtbcnlggkoidmmaaGreatDoor

namespace Go.Proofs.YtbcnlggkoidmmaaGreatDoor
open Go.RowKit Go.Joins OutMath

theorem bytesFor_any (c : Int) (w : World) (h1 : 0 ≤ c) (h2 : c ≤ 96000) :
    Calls Tryz.prog 41 #[.int .i64 c] w fun e w' => e = .returned (.int .i64 ((c + 7) / 8)) ∧ w' = w := by
  go_enter Tryz.func41, Tryz.ntmps41
  go_wp2
  go_ret
  exact ⟨rfl, rfl⟩

set_option maxHeartbeats 400000 in
theorem implOut_fit0 (s : ByteArray) (c : Int) (w : World) (h : Fits s c) (hc : c % 8 = 0) :
    Calls Tryz.prog 60 #[.agg #[.string s, .int .i64 c]] w fun e w' => e = .returned (.bool true) ∧ Below w.heap.size w w' := by
  obtain ⟨h1, h2, h3, h4⟩ := h
  have d2 : decide (c < 0) = false := by simp; omega
  have d3 : decide ((96000 : Int) < c) = false := by simp; omega
  have d4 : ((s.size : Int) != (c + 7) / 8) = false := by simp; omega
  have d5 : (c % 8 == 0) = true := by simp; omega
  have ht : c.tmod 8 = c % 8 := Int.tmod_eq_emod_of_nonneg h2
  have hc9 : c ≤ 96000 := by omega
  clear h4 hc
  go_enter Tryz.func60, Tryz.ntmps60
  go_wp2
  go_quiet ((go_at_call 41; exact Calls.quiet_of_same (bytesFor_any _ _ (by omega) (by omega))))
  go_wp2
  go_ret
  exact ⟨rfl, (below_alloc1 _ _).trans (below_draws _ _ _)⟩

set_option maxHeartbeats 400000 in
theorem implOut_fit1 (s : ByteArray) (c : Int) (w : World) (h : Fits s c) (hc : ¬ c % 8 = 0) :
    Calls Tryz.prog 60 #[.agg #[.string s, .int .i64 c]] w fun e w' => e = .returned (.bool (lastOk s c)) ∧ Below w.heap.size w w' := by
  obtain ⟨h1, h2, h3, h4⟩ := h
  have d2 : decide (c < 0) = false := by simp; omega
  have d3 : decide ((96000 : Int) < c) = false := by simp; omega
  have d4 : ((s.size : Int) != (c + 7) / 8) = false := by simp; omega
  have d5 : (c % 8 == 0) = false := by simp; omega
  have d6 : 0 < s.size := by omega
  have ht : c.tmod 8 = c % 8 := Int.tmod_eq_emod_of_nonneg h2
  have hc9 : c ≤ 96000 := by omega
  have hix := index_last s d6
  have hlt := last_lt s
  have hlo := lastOk_div s c
  clear h4 hc
  go_enter Tryz.func60, Tryz.ntmps60
  go_wp2
  go_quiet ((go_at_call 41; exact Calls.quiet_of_same (bytesFor_any _ _ (by omega) (by omega))))
  have HL : Hid (lastOk s c = (((last s : Nat) : Int) / 2 ^ (c % 8).toNat == 0)) := hlo
  clear hlo
  go_wp2
  go_ret
  exact ⟨ret_b HL.out.symm, (below_alloc1 _ _).trans (below_draws _ _ _)⟩

set_option maxHeartbeats 400000 in
theorem implOut_no (s : ByteArray) (c : Int) (w : World) (hs : s.size ≤ maxLen) (hc1 : -9223372036854775808 ≤ c) (hc2 : c ≤ 9223372036854775807) (h : ¬ Fits s c) :
    Calls Tryz.prog 60 #[.agg #[.string s, .int .i64 c]] w fun e w' => e = .returned (.bool false) ∧ Below w.heap.size w w' := by
  unfold maxLen at hs
  unfold Fits at h
  by_cases h2 : c < 0
  · have d2 : decide (c < 0) = true := by simpa using h2
    clear h
    go_enter Tryz.func60, Tryz.ntmps60
    go_wp2
    go_quiet (fail)
    go_wp2
    go_ret
    exact ⟨rfl, (below_alloc1 _ _).trans (below_draws _ _ _)⟩
  · have d2 : decide (c < 0) = false := by simpa using h2
    by_cases h3 : (96000 : Int) < c
    · have d3 : decide ((96000 : Int) < c) = true := by simpa using h3
      clear h
      go_enter Tryz.func60, Tryz.ntmps60
      go_wp2
      go_quiet (fail)
      go_wp2
      go_ret
      exact ⟨rfl, (below_alloc1 _ _).trans (below_draws _ _ _)⟩
    · have d3 : decide ((96000 : Int) < c) = false := by simpa using h3
      have d4 : ((s.size : Int) != (c + 7) / 8) = true := by rw [bne_iff_ne]; omega
      clear h
      go_enter Tryz.func60, Tryz.ntmps60
      go_wp2
      go_quiet ((go_at_call 41; exact Calls.quiet_of_same (bytesFor_any _ _ (by omega) (by omega))))
      go_wp2
      go_ret
      exact ⟨rfl, (below_alloc1 _ _).trans (below_draws _ _ _)⟩

theorem implOut_any (s : ByteArray) (c : Int) (w : World) (hs : s.size ≤ maxLen) (hc1 : -9223372036854775808 ≤ c) (hc2 : c ≤ 9223372036854775807) :
    Calls Tryz.prog 60 #[.agg #[.string s, .int .i64 c]] w fun e w' => e = .returned (.bool (outB s c)) ∧ Below w.heap.size w w' := by
  by_cases h : Fits s c
  · by_cases hc : c % 8 = 0
    · rw [outB_fit0 s c h hc]; exact implOut_fit0 s c w h hc
    · rw [outB_fit1 s c h hc]; exact implOut_fit1 s c w h hc
  · rw [outB_no s c h]; exact implOut_no s c w hs hc1 hc2 h

end Go.Proofs.YtbcnlggkoidmmaaGreatDoor
