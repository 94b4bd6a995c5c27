/-
  The walk of BlockTypes in the document's model.
  The walks of the program's takeFixed, takeNone and takeBlock: a block, whole.
-/
import Derived.Test.YtedbmhelmenknaaDoorPk38
import Derived.Test.YtedbmhelmenknaaDoorPk32
import Derived.Test.YtedbmhelmenknaaDoorPk33
import Derived.Test.YtedbmhelmenknaaDoorPk34
namespace Go.Proofs.YtedbmhelmenknaaDoor
open Go.RowKit Go.Joins OutMath CodeMath TakeMath TokMath InfMath RunsMath

/-- What BlockTypes answers. -/
def TypesPost (w : World) (res : Except Nat (List Int × Nat × List Int)) (e : Ending) (w' : World) : Prop :=
  Below w.heap.size w w' ∧ ((∃ O p Ty a c, res = .ok (O, p, Ty) ∧ Ty.length ≤ 96000 ∧ e = .returned (.tuple #[.slice a Ty.length c, .bool true]) ∧ NumRow w' w.heap.size (.slice a Ty.length c) Ty) ∨ (∃ x a c, res = .error x ∧ e = .returned (.tuple #[.slice a 0 c, .bool false])))
theorem low_base {w : World} {S : Nat} {v : Value} {L : List Int} (h : NumRow w (S + 1) v L) : NumRow w S v L := by
  refine ⟨h.1, ?_⟩
  rcases h.2 with q | ⟨g, cap, cur, h1, h2, h3⟩
  · exact .inl q
  · exact .inr ⟨g, cap, cur, h1, by omega, h3⟩
theorem infl_small {s : ByteArray} {most : Int} {r : List Int × Nat × List Int} (h : inflateE s most = .ok r) : s.size ≤ 12000 := by
  unfold inflateE at h
  split at h
  · rename_i q
    exact q.1
  · cases h
set_option maxRecDepth 100000 in
set_option maxHeartbeats 1600000 in
theorem specTypes_any (s : ByteArray) (most : Int) (w : World) (hs : s.size ≤ 1048576) :
    Calls Tryd.prog 7 #[.string s, .int .i64 most] w (TypesPost w (inflateE s most)) := by
  have hi := l08Inflate_any s most w hs
  have HSM := hid_of (fun r => @infl_small s most r)
  generalize inflateE s most = tgt at *
  go_enter Tryd.func7, Tryd.ntmps7
  go_wp2_with fail
  refine hi.mono ?_
  clear hi
  rintro e w1 ⟨p, vo, vt, c, rfl, ⟨⟨fa, fn, fc, rfl⟩, ⟨ga, gn, gc, rfl⟩⟩, hB, ⟨rfl, hp, O, Ty, hO, hT, hBy, hl, hTp, htg⟩ | ⟨hc, hc8, htg⟩⟩
  · obtain ⟨av, cv, hv, _⟩ := hT.form
    obtain ⟨ao, co, hv2⟩ := hO.form
    cases hv
    cases hv2
    have HP : Hid (∀ o, TypesPost w tgt (.returned (.tuple #[.slice ga Ty.length gc, .bool true])) (w1.alloc o)) := fun o => by
      have := HSM.out _ htg
      exact ⟨bal hB o, .inl ⟨O, p, Ty, ga, gc, htg, by omega, rfl, low_base (World.ownsRow.alloc hT o)⟩⟩
    clear hB hO hT hBy hl hTp htg HSM
    go_wp2_with fail
    go_ret2
    exact HP.out _
  · have dc : ((c : Int) != 0) = true := by simp; omega
    have HP : Hid (∀ o o2 g, TypesPost w tgt (.returned (.tuple #[.slice (some ⟨g, 0, none⟩) 0 0, .bool false])) ((w1.alloc o).alloc o2)) := fun o o2 g => ⟨bal (bal hB o) o2, .inr ⟨c, _, _, htg, rfl⟩⟩
    clear hB htg HSM
    go_wp2_with fail
    go_ret2
    exact HP.out _ _ _
end Go.Proofs.YtedbmhelmenknaaDoor

namespace Go.Proofs.YtedbmhelmenknaaDoor
open Go.RowKit Go.Joins OutMath CodeMath TakeMath HitMath WayMath StepMath TokMath BookMath InfMath RunsMath

theorem came_first {w : World} {K n : Nat} {a : Option Addr} {c : Nat} {f : Nat → Int} (h : NumRow w K (.slice a n c) (firstJ f n)) : Came w a n f := by
  obtain ⟨a', c', hv, _, _, hC, _⟩ := h.form
  rw [firstJ_length] at hv hC
  cases hv
  rcases hC with q | ⟨g, off, q1, q2, q3⟩
  · exact .inl q
  · refine .inr ⟨g, off, q1, q2, fun j hj => ?_⟩
    rw [q3 j hj]
    show some (Value.int .i64 ((firstJ f n).getD j 0)) = _
    rw [firstJ_getD f hj]
theorem block_fixed (s : ByteArray) (most p : Nat) (O : List Int) : blockP s most 1 p O = symbolsF s most fixed1 288 fixed2 32 (8 * s.size + 1) p O := by
  unfold blockP
  rw [if_neg (by decide), if_pos rfl]
theorem block_stored (s : ByteArray) (most p : Nat) (O : List Int) : blockP s most 0 p O = storedE s most p O := by
  unfold blockP
  rw [if_pos rfl]
theorem block_none (s : ByteArray) (most p : Nat) (O : List Int) : blockP s most 3 p O = .error 3 := by
  unfold blockP
  rw [if_neg (by decide), if_neg (by decide), if_neg (by decide)]
theorem blk_form {B : Nat} {w : World} {fb rb : Nat} {s : ByteArray} {most : Nat} {Ty : List Int} {vo vt : Value} {res : Except Nat (List Int × Nat)} {e : Ending} {w' : World} (h : BlkPost B w fb rb s most Ty vo vt res e w') : e = .returned .nilIface ∨ ∃ c, e = .returned (errV c) := by
  rcases h with ⟨_, _, _, _, _, _, y4, _⟩ | ⟨c, _, y2, _⟩
  · exact .inl y4
  · exact .inr ⟨c, y2⟩
/-- From a step on. -/
theorem blk_from {B : Nat} {w w1 : World} {fb rb : Nat} {s : ByteArray} {p : Nat} {O : List Int} {most : Nat} {Ty : List Int} {vo vt : Value} {res : Except Nat (List Int × Nat)} (hps : PS B w fb rb s p O most Ty vo vt) (st : Step fb rb w vo vt w1 vo vt) {e : Ending} {w' : World} (hP : BlkPost B w1 fb rb s most Ty vo vt res e w') : BlkPost B w fb rb s most Ty vo vt res e w' := by
  rcases hP with ⟨O', p', vo', y1, y2, y3, y4, y5, y6⟩ | ⟨c, y1, y2, y3⟩
  · exact .inl ⟨O', p', vo', y1, y2, y3, y4, y5, st.trans y6⟩
  · exact .inr ⟨c, y1, y2, (hps.below st).trans y3⟩
section
variable (B : Nat) (w : World) (fb rb : Nat) (s : ByteArray) (p : Nat) (O : List Int) (most : Nat) (Ty : List Int) (vo vt : Value)
set_option maxHeartbeats 1600000 in
theorem takeFixed_any (h : PS B w fb rb s p O most Ty vo vt) (hs : s.size ≤ 12000) (hp : p ≤ 8 * s.size) (hm : most ≤ 12000) (hO : O.length ≤ most) :
    Calls Tryd.prog 38 #[.pointer (some ⟨fb, 0, none⟩)] w (BlkPost B w fb rb s most Ty vo vt (blockP s most 1 p O)) := by
  have HPS := hid_of h
  rw [block_fixed]
  have hfx := implFixed w
  have htb := fun (w1 : World) (a1 : Option Addr) (c1 : Nat) (a2 : Option Addr) (c2 : Nat) (hb : Below w.heap.size w w1) (q1 : Came w1 a1 288 fixed1) (q2 : Came w1 a2 32 fixed2) => two_books B fb rb s p O most Ty vo vt a1 288 c1 fixed1 w1 q1 fixed1_coded a2 32 c2 fixed2 q2 fixed2_coded (h.called hb) hs hp hm hO
  clear h
  generalize symbolsF s most fixed1 288 fixed2 32 (8 * s.size + 1) p O = res at *
  go_enter Tryd.func38, Tryd.ntmps38
  go_wp2_with fail
  refine hfx.mono ?_
  clear hfx
  rintro e w1 ⟨a1, c1, a2, c2, K, rfl, r1, r2, _, b1, _⟩
  have htb1 := htb w1 a1 c1 a2 c2 b1 (came_first r1) (came_first r2)
  have HF : Hid (∀ e w', BlkPost B w1 fb rb s most Ty vo vt res e w' → BlkPost B w fb rb s most Ty vo vt res e w') := fun e w' hP => blk_from HPS.out (Step.called b1) hP
  clear htb r1 r2 b1 HPS
  go_wp2_with fail
  refine htb1.mono ?_
  clear htb1
  rintro e w7 ⟨b1, rfl, htb2⟩
  go_wp2_with fail
  refine htb2.mono ?_
  clear htb2
  rintro e w8 ⟨b2, rfl, htb3⟩
  go_wp2_with fail
  refine htb3.mono ?_
  clear htb3
  intro e w9 hP
  have HP := hid_of (HF.out e w9 hP)
  have hform := blk_form hP
  clear hP HF
  rcases hform with rfl | ⟨c, rfl⟩
  all_goals
    go_wp2_with fail
    go_ret
    exact HP.out
theorem takeNone_any (_h : PS B w fb rb s p O most Ty vo vt) :
    Calls Tryd.prog 40 #[.pointer (some ⟨fb, 0, none⟩)] w (BlkPost B w fb rb s most Ty vo vt (blockP s most 3 p O)) := by
  have HP : Hid (BlkPost B w fb rb s most Ty vo vt (blockP s most 3 p O) (.returned (errV 3)) w) := .inr ⟨3, block_none s most p O, rfl, Below.refl _ _⟩
  clear _h
  go_enter Tryd.func40, Tryd.ntmps40
  go_wp2_with fail
  go_ret
  exact HP.out
theorem store_func (W : World) (g o : Nat) (f : Fn) (xs ys : Array Value) (h1 : (W.cell? ⟨g, o, none⟩).isSome = true) (h2 : W.frozen? ⟨g, o, none⟩ = false) : (store ⟨g, o, none⟩ (Value.func f xs ys)).run Tryd.prog W = .ok () (W.setCell ⟨g, o, none⟩ (Value.func f xs ys)) := by
  rw [run_store _ _ _ _ _ rfl]
  cases e : W.cell? ⟨g, o, none⟩ with
  | none =>
    rw [e] at h1
    cases h1
  | some v =>
    dsimp only
    rw [h2]
    rfl
/-- What takeBlock leaves. -/
def TkbPost (B : Nat) (w : World) (fb rb : Nat) (s : ByteArray) (p : Nat) (O : List Int) (most : Nat) (Ty : List Int) (vo vt : Value) (e : Ending) (w' : World) : Prop :=
  (∃ O' p' vo' vt', p + 3 ≤ 8 * s.size ∧ blockP s most (num s (p + 1) 2) (p + 3) O = .ok (O', p') ∧ p' ≤ 8 * s.size ∧ O'.length ≤ most ∧ e = .returned (.tuple #[.bool (decide (num s p 1 = 1)), .nilIface]) ∧ PS B w' fb rb s p' O' most (Ty ++ [num s (p + 1) 2]) vo' vt' ∧ Step fb rb w vo vt w' vo' vt') ∨
  (∃ c x, (¬ p + 3 ≤ 8 * s.size ∧ c = 2 ∨ p + 3 ≤ 8 * s.size ∧ blockP s most (num s (p + 1) 2) (p + 3) O = .error c) ∧ e = .returned (.tuple #[.bool x, errV c]) ∧ Below B w w')
theorem head_of (s : ByteArray) (p : Nat) : num s p 3 / 2 = num s (p + 1) 2 ∧ num s p 3 % 2 = num s p 1 := by
  have h1 := num_split s p 1 2
  have b1 := num_bd s p 1
  have b2 := num_bd s (p + 1) 2
  rw [show p2 1 = 2 by decide +kernel] at h1 b1
  rw [show 1 + 2 = 3 from rfl] at h1
  omega
set_option maxRecDepth 100000 in
set_option maxHeartbeats 3200000 in
theorem takeBlock_any (h : PS B w fb rb s p O most Ty vo vt) (hs : s.size ≤ 12000) (hp : p ≤ 8 * s.size) (hm : most ≤ 12000) (hO : O.length ≤ most) (hG : OrderG w) (hGB : 1 < B) (hT : Ty.length ≤ 96000) :
    Calls Tryd.prog 22 #[.pointer (some ⟨fb, 0, none⟩)] w (TkbPost B w fb rb s p O most Ty vo vt) := by
  have HPS := hid_of h
  have HG := hid_of hG
  clear h hG
  by_cases h3 : p + 3 ≤ 8 * s.size
  · have htk := take_yes B w fb rb s p O most Ty vo vt HPS.out hs 3 (by omega) h3
    obtain ⟨e1, e2⟩ := head_of s p
    have q0 := num_bd s p 3
    rw [show p2 3 = 8 by decide +kernel] at q0
    have ea := and1 (num s p 3) q0.1 (by omega)
    rw [e2] at ea
    have HPO : Hid (∀ w' e', (∃ O' p' vo' vt', blockP s most (num s (p + 1) 2) (p + 3) O = .ok (O', p') ∧ p' ≤ 8 * s.size ∧ O'.length ≤ most ∧ e' = .returned (.tuple #[.bool (decide (num s p 1 = 1)), .nilIface]) ∧ PS B w' fb rb s p' O' most (Ty ++ [num s (p + 1) 2]) vo' vt' ∧ Step fb rb w vo vt w' vo' vt') ∨ (∃ c x, blockP s most (num s (p + 1) 2) (p + 3) O = .error c ∧ e' = .returned (.tuple #[.bool x, errV c]) ∧ Below B w w') → TkbPost B w fb rb s p O most Ty vo vt e' w') := fun w' e' q => by
      rcases q with ⟨O', p', vo', vt', y⟩ | ⟨c, x, y1, y2, y3⟩
      · exact .inl ⟨O', p', vo', vt', h3, y⟩
      · exact .inr ⟨c, x, .inr ⟨h3, y1⟩, y2, y3⟩
    have hlast : (num s p 1 = 0 ∨ num s p 1 = 1) := by
      have := num_bd s p 1
      rw [show p2 1 = 2 by decide +kernel] at this
      omega
    have hk4 : 0 ≤ num s (p + 1) 2 ∧ num s (p + 1) 2 < 4 := by
      have := num_bd s (p + 1) 2
      rw [show p2 2 = 4 by decide +kernel] at this
      exact this
    clear e2
    generalize num s p 3 = x at *
    generalize num s p 1 = l1 at *
    generalize num s (p + 1) 2 = k at *
    go_enter Tryd.func22, Tryd.ntmps22
    go_wp2_with fail
    refine htk.mono ?_
    clear htk
    rintro e w1 ⟨rfl, hS1, hg1⟩
    have HS1 := hid_of hS1
    have HT1 : Hid (Step fb rb w vo vt w1 vo vt) := step_read hg1
    have c3 := hS1.1.cells.2.2.2
    have hl1 := hS1.ltf
    obtain ⟨av, cv, hvt, _⟩ := hS1.2.2.2.1.form
    have hNR := hS1.2.2.2.1
    have hBl := hS1.2.2.2.2.2.2.2.2.2.2
    have HVT := hid_of hvt
    rw [hvt] at c3 hNR
    have HNR := hid_of hNR
    clear hS1 hg1 hNR hvt
    go_wp2_with (at_builtin; refine nums_append1 (S := B) (xs := Ty) rfl _ _ rfl rfl (World.ownsRow.alloc HNR.out _) w1.heap.size 1 k rfl (by simp) (by omega) (by simp; omega) ?_)
    intro v2 w2 y1 y2 y3
    have hgr : w1.grownBy w2 vt.ownBlock := by
      rw [HVT.out]
      exact (grown_called (bstart w1 _) _).trans y2
    have hmv : v2.ownBlock = vt.ownBlock ∨ ∀ k, v2.ownBlock = some k → w1.heap.size ≤ k := by
      rcases y3 with q | q
      · exact .inl (by rw [HVT.out]; exact q)
      · refine .inr (fun k e => ?_)
        rw [q] at e
        have := Option.some.inj e
        omega
    obtain ⟨k1, k2, k3⟩ := HS1.out.typed y1 hgr hmv
    have n3 := k1.cells.2.2.2
    have nf := k1.free 3
    have nl := k1.lt
    obtain ⟨a2, c2, hv2, _⟩ := y1.form
    rw [List.length_append, List.length_singleton] at hv2
    subst hv2
    have HS2 := hid_of k2
    have HT2 := hid_of (HT1.out.trans k3)
    clear HS1 HT1 HNR y1 y2 y3 hgr hmv k1 k2 k3 HVT c3
    have hst := fun (W : World) (o : Nat) (f : Fn) (xs ys : Array Value) => store_func W w2.heap.size o f xs ys
    have hG2 : OrderG (w2.setCell ⟨fb, 3, none⟩ (.slice a2 (Ty.length + 1) c2)) := HG.out.below (HPS.out.below HT2.out) hGB
    have HAL := hid_of (fun (o : Obj) => And.intro (HS2.out.called (bstart (w2.setCell ⟨fb, 3, none⟩ (.slice a2 (Ty.length + 1) c2)) o)) (And.intro (HT2.out.trans (Step.called (bstart (w2.setCell ⟨fb, 3, none⟩ (.slice a2 (Ty.length + 1) c2)) o))) (hG2.below ((bstart (w2.setCell ⟨fb, 3, none⟩ (.slice a2 (Ty.length + 1) c2)) o).mono HS2.out.2.2.2.2.2.2.2.2.2.2) hGB)))
    clear hG2 HG HS2 HT2
    have HFIN : Hid (∀ (w3 : World) (e : Ending) (w' : World), Step fb rb w vo vt w3 vo (.slice a2 (Ty.length + 1) c2) → BlkPost B w3 fb rb s most (Ty ++ [k]) vo (.slice a2 (Ty.length + 1) c2) (blockP s most k (p + 3) O) e w' → (e = .returned .nilIface ∧ TkbPost B w fb rb s p O most Ty vo vt (.returned (.tuple #[.bool (decide (l1 = 1)), .nilIface])) w') ∨ ∃ c, e = .returned (errV c) ∧ ∀ x, TkbPost B w fb rb s p O most Ty vo vt (.returned (.tuple #[.bool x, errV c])) w') := fun w3 e w' st hP => by
      rcases hP with ⟨O', p', vo', y1, y2, y3, y4, y5, y6⟩ | ⟨c, y1, y2, y3⟩
      · exact .inl ⟨y4, HPO.out w' _ (.inl ⟨O', p', vo', _, y1, y2, y3, rfl, y5, st.trans y6⟩)⟩
      · exact .inr ⟨c, y2, fun x => HPO.out w' _ (.inr ⟨c, x, y1, rfl, (HPS.out.below st).trans y3⟩)⟩
    have HCL : Hid (∀ w3, PS B w3 fb rb s (p + 3) O most (Ty ++ [k]) vo (.slice a2 (Ty.length + 1) c2) → OrderG w3 →
        (k = 0 → Calls Tryd.prog 37 #[.pointer (some ⟨fb, 0, none⟩)] w3 (BlkPost B w3 fb rb s most (Ty ++ [k]) vo (.slice a2 (Ty.length + 1) c2) (blockP s most k (p + 3) O))) ∧
        (k = 1 → Calls Tryd.prog 38 #[.pointer (some ⟨fb, 0, none⟩)] w3 (BlkPost B w3 fb rb s most (Ty ++ [k]) vo (.slice a2 (Ty.length + 1) c2) (blockP s most k (p + 3) O))) ∧
        (k = 2 → Calls Tryd.prog 39 #[.pointer (some ⟨fb, 0, none⟩)] w3 (BlkPost B w3 fb rb s most (Ty ++ [k]) vo (.slice a2 (Ty.length + 1) c2) (blockP s most k (p + 3) O))) ∧
        (k = 3 → Calls Tryd.prog 40 #[.pointer (some ⟨fb, 0, none⟩)] w3 (BlkPost B w3 fb rb s most (Ty ++ [k]) vo (.slice a2 (Ty.length + 1) c2) (blockP s most k (p + 3) O)))) := fun w3 hps hg => by
      refine ⟨fun e => ?_, fun e => ?_, fun e => ?_, fun e => ?_⟩
      · subst e
        rw [block_stored]
        exact takeStored_any B w3 fb rb s (p + 3) O most _ vo _ hps hs h3 hm hO
      · subst e
        exact takeFixed_any B w3 fb rb s (p + 3) O most _ vo _ hps hs h3 hm hO
      · subst e
        exact takeWoven_any B w3 fb rb s (p + 3) O most _ vo _ hps hs h3 hm hO hg hGB
      · subst e
        exact takeNone_any B w3 fb rb s (p + 3) O most _ vo _ hps
    clear HPO HPS
    rcases (show k = 0 ∨ k = 1 ∨ k = 2 ∨ k = 3 by omega) with hk | hk | hk | hk
    · have HC := hid_of (fun w3 q1 q2 => (HCL.out w3 q1 q2).1 hk)
      clear HCL
      generalize blockP s most k (p + 3) O = res at *
      subst hk
      rcases hlast with rfl | rfl
      all_goals
        go_wp2_with fail
        obtain ⟨z1, z2, z3⟩ := HAL.out (.cells #[.func (.func 37) #[.pointer (some ⟨fb, 0, none⟩)] #[], .func (.func 38) #[.pointer (some ⟨fb, 0, none⟩)] #[], .func (.func 39) #[.pointer (some ⟨fb, 0, none⟩)] #[], .func (.func 40) #[.pointer (some ⟨fb, 0, none⟩)] #[]] 81)
        refine (HC.out _ z1 z3).mono ?_
        intro e w4 hP
        have HE := hid_of (HFIN.out _ e w4 z2 hP)
        clear z1 z2 z3 hP HC HFIN HAL
        rcases HE.out with ⟨rfl, hE⟩ | ⟨c, rfl, hE⟩
        all_goals
          have HX := hid_of hE
          clear hE HE
          go_wp2_with fail
          go_ret2
          first | exact HX.out | exact HX.out _
    · have HC := hid_of (fun w3 q1 q2 => (HCL.out w3 q1 q2).2.1 hk)
      clear HCL
      generalize blockP s most k (p + 3) O = res at *
      subst hk
      rcases hlast with rfl | rfl
      all_goals
        go_wp2_with fail
        obtain ⟨z1, z2, z3⟩ := HAL.out (.cells #[.func (.func 37) #[.pointer (some ⟨fb, 0, none⟩)] #[], .func (.func 38) #[.pointer (some ⟨fb, 0, none⟩)] #[], .func (.func 39) #[.pointer (some ⟨fb, 0, none⟩)] #[], .func (.func 40) #[.pointer (some ⟨fb, 0, none⟩)] #[]] 81)
        refine (HC.out _ z1 z3).mono ?_
        intro e w4 hP
        have HE := hid_of (HFIN.out _ e w4 z2 hP)
        clear z1 z2 z3 hP HC HFIN HAL
        rcases HE.out with ⟨rfl, hE⟩ | ⟨c, rfl, hE⟩
        all_goals
          have HX := hid_of hE
          clear hE HE
          go_wp2_with fail
          go_ret2
          first | exact HX.out | exact HX.out _
    · have HC := hid_of (fun w3 q1 q2 => (HCL.out w3 q1 q2).2.2.1 hk)
      clear HCL
      generalize blockP s most k (p + 3) O = res at *
      subst hk
      rcases hlast with rfl | rfl
      all_goals
        go_wp2_with fail
        obtain ⟨z1, z2, z3⟩ := HAL.out (.cells #[.func (.func 37) #[.pointer (some ⟨fb, 0, none⟩)] #[], .func (.func 38) #[.pointer (some ⟨fb, 0, none⟩)] #[], .func (.func 39) #[.pointer (some ⟨fb, 0, none⟩)] #[], .func (.func 40) #[.pointer (some ⟨fb, 0, none⟩)] #[]] 81)
        refine (HC.out _ z1 z3).mono ?_
        intro e w4 hP
        have HE := hid_of (HFIN.out _ e w4 z2 hP)
        clear z1 z2 z3 hP HC HFIN HAL
        rcases HE.out with ⟨rfl, hE⟩ | ⟨c, rfl, hE⟩
        all_goals
          have HX := hid_of hE
          clear hE HE
          go_wp2_with fail
          go_ret2
          first | exact HX.out | exact HX.out _
    · have HC := hid_of (fun w3 q1 q2 => (HCL.out w3 q1 q2).2.2.2 hk)
      clear HCL
      generalize blockP s most k (p + 3) O = res at *
      subst hk
      rcases hlast with rfl | rfl
      all_goals
        go_wp2_with fail
        obtain ⟨z1, z2, z3⟩ := HAL.out (.cells #[.func (.func 37) #[.pointer (some ⟨fb, 0, none⟩)] #[], .func (.func 38) #[.pointer (some ⟨fb, 0, none⟩)] #[], .func (.func 39) #[.pointer (some ⟨fb, 0, none⟩)] #[], .func (.func 40) #[.pointer (some ⟨fb, 0, none⟩)] #[]] 81)
        refine (HC.out _ z1 z3).mono ?_
        intro e w4 hP
        have HE := hid_of (HFIN.out _ e w4 z2 hP)
        clear z1 z2 z3 hP HC HFIN HAL
        rcases HE.out with ⟨rfl, hE⟩ | ⟨c, rfl, hE⟩
        all_goals
          have HX := hid_of hE
          clear hE HE
          go_wp2_with fail
          go_ret2
          first | exact HX.out | exact HX.out _
  · have htk := take_no B w fb rb s p O most Ty vo vt HPS.out hs hp 3 (by omega) h3
    go_enter Tryd.func22, Tryd.ntmps22
    go_wp2_with fail
    refine htk.mono ?_
    clear htk
    rintro e w1 ⟨rfl, hS1, hg1⟩
    have HP : Hid (TkbPost B w fb rb s p O most Ty vo vt (.returned (.tuple #[.bool false, errV 2])) w1) := .inr ⟨2, false, .inl ⟨h3, rfl⟩, rfl, HPS.out.below (step_read hg1)⟩
    clear hS1 hg1 HPS HG
    go_wp2_with fail
    go_ret2
    exact HP.out
end
end Go.Proofs.YtedbmhelmenknaaDoor
