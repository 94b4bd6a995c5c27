/-
  Proved here: SameMeaning answers as the model at every two meanings, and writes into none.
-/
import Derived.Test.YtbadpggmjmodlaaRows
import Derived.Test.YtbadpggmjmodlaaBase
import Derived.Test.YtbadpggmjmodlaaSameLaw
import Derived.Test.YtbadpggmjmodlaaSameMean
import Derived.WalkKit
import Derived.ProofKit
import Derived.OpenShut
import Derived.ShutString
import Derived.ChangeOld
import Derived.Below
import Derived.Lib.SmallJoins
namespace Go.Proofs.Ytbadpggmjmodlaa
open Go.ChangeShapes Go.WideShapes Go.ChangeAt Go.RowKit Go.Joins

set_option maxRecDepth 100000 in
theorem FnExactSameMeaning_walk (p0 : Mea) (q0 : MeaA) (p1 : Mea) (q1 : MeaA) (w : World) (f0 : MeanIn w p0 q0) (f1 : p0.pn ≤ maxLen) (f2 : p0.kn ≤ maxLen) (f3 : ∀ i, i < p0.kn → (p0.K i).1.size ≤ maxLen ∧ (p0.K i).2.size ≤ maxLen) (g0 : MeanIn w p1 q1) (g1 : p1.pn ≤ maxLen) (g2 : p1.kn ≤ maxLen) (g3 : ∀ i, i < p1.kn → (p1.K i).1.size ≤ maxLen ∧ (p1.K i).2.size ≤ maxLen) :
    Calls Try.prog 5 #[meanV p0 q0, meanV p1 q1] w fun e w' => e = .returned (.bool true) ∧ Below w.heap.size w w' :=
  FnExactSameMeaning_over (fun m m2 q q2 w h k hz hy => specSame m m2 q q2 w h k hz hy) (fun m m2 q q2 w h k hz hy => implSame m m2 q q2 w h k hz hy) p0 p1 q0 q1 w f0 f1 f2 f3 g0 g1 g2 g3

set_option maxRecDepth 100000 in
theorem FnExactSameMeaning_lifted (os : Os) (started : os.Started) (H : Type) (enc : TypeId × Value → H) :
    ReturnsInHanded {} Try.checked os 5 .any (Rows.fnExactSameMeaningSpec.pre6 enc Try.prog Try.f5 Rows.fnExactSameMeaningRow.domain false) (Rows.fnExactSameMeaningSpec.post enc Try.prog Try.f5 false true false false) := by
  refine returnsInHanded_of_change (C := Try.checked) (by kernel_rfl) started (by kernel_rfl) Try.func5
    (ChangeSpec.witness6 (enc := enc) (C := Try.checked) false ⟨#[], #[.agg #[.int .i64 0, .int .i64 0, .slice none 0 0, .slice none 0 0], .agg #[.int .i64 0, .int .i64 0, .slice none 0 0, .slice none 0 0]], []⟩ 8 (by kernel_rfl) (by kernel_rfl) (by kernel_rfl) (by kernel_rfl)) ?_
  intro W base args ds gs before hval0 hW hcnd _
  have hval : ∀ (j : Nat) t v, Try.f5.params[j]? = some t → args[j]? = some v → Value.okWide Try.prog W .any base t v := hval0
  have hW' := hW
  obtain ⟨p, q, hA0, hV, rfl, hfz, hnd⟩ := hW
  have hA : DataW.TrodAll enc Try.prog W 0 (fun _ => true) true Try.f5.params.toList args.toList ds p := hA0
  rw [Try.params5] at hA hval
  obtain ⟨v0, vs0, d0, ds0, p0, q0, hargs, rfl, rfl, h0, r0⟩ := trodAll_cons hA
  obtain ⟨v1, vs1, d1, ds1, p1, q1, rfl, rfl, rfl, h1, r1⟩ := trodAll_cons r0
  obtain ⟨rfl, rfl, rfl⟩ := trodAll_nil r1
  obtain rfl : args = #[v0, v1] := by cases args; simp_all
  obtain ⟨rfl, rfl⟩ := trodVars_none hV
  have k0 := h0
  have lt0 : ∀ x ∈ p0, x.block < W.heap.size := by obtain ⟨m, hm⟩ := k0; exact DataW.trod_lt m _ _ _ hm
  have k1 := h1
  have lt1 : ∀ x ∈ p1, x.block < W.heap.size := by obtain ⟨m, hm⟩ := k1; exact DataW.trod_lt m _ _ _ hm
  obtain ⟨p0_, q0_, rfl, f0_0, f0_1, f0_2, f0_3⟩ := open_mean (hval 0 50 v0 rfl rfl) h0
  obtain ⟨p1_, q1_, rfl, f1_0, f1_1, f1_2, f1_3⟩ := open_mean (hval 1 50 v1 rfl rfl) h1
  clear hA0 hval0
  refine (FnExactSameMeaning_walk p0_ q0_ p1_ q1_ W f0_0 f0_1 f0_2 f0_3 f1_0 f1_1 f1_2 f1_3).mono fun e W' ⟨he, bel⟩ => ?_
  subst he
  exact ⟨_, rfl, _, _, _, [], _, [], hW', trodAll_mk1 (shut_bool Try.underlying4 _), (trodAll_cons_mk (Below.trod (of_laid) (by kernel_rfl) (of_decide_eq_true (by kernel_rfl)) k0 bel lt0) (trodAll_cons_mk (Below.trod (of_laid) (by kernel_rfl) (of_decide_eq_true (by kernel_rfl)) k1 bel lt1) trodAll_mk0)), rfl, bel.frame _, fun h => by cases h⟩

theorem FnExactSameMeaning_holds : Rows.FnExactSameMeaningSaid :=
  OpenClaim.holds_of_wide 5 Try.f5 rfl rfl rfl rfl rfl rfl rfl ⟨rfl, rfl, rfl, rfl, rfl⟩ rfl rfl rfl rfl rfl (by kernel_rfl) Try.func5 (by kernel_rfl)
    (of_decide_eq_true (by kernel_rfl)) (by unfold Func.isWrapper; first | (rw [if_pos (by decide +kernel)]; kernel_rfl) | (rw [if_neg (by decide +kernel)]; exact ⟨rfl, rfl⟩))
    (fun os started H enc _ => FnExactSameMeaning_lifted os started H enc)

#print axioms FnExactSameMeaning_holds

end Go.Proofs.Ytbadpggmjmodlaa
