/-
  Proved here: at every head HeadText answers as the document's model.
-/
import Derived.Test.YtcnlcbkgbcnloaaRows
import Derived.Test.YtcnlcbkgbcnloaaBase
import Derived.Test.YtcnlcbkgbcnloaaRastMath
import Derived.Test.YtcnlcbkgbcnloaaHeadMath
import Derived.Test.YtcnlcbkgbcnloaaHeadAns
import Derived.Test.YtcnlcbkgbcnloaaHeadOpen
import Derived.Test.YtcnlcbkgbcnloaaHeadSpec
import Derived.Test.YtcnlcbkgbcnloaaHeadImpl
import Derived.Test.YtcnlcbkgbcnloaaHeadLaw
import Derived.WalkKit
import Derived.ProofKit
import Derived.OpenShut
import Derived.ShutString
import Derived.ChangeOld
import Derived.Below
import Derived.Lib.SmallJoins
namespace Go.Proofs.Ytcnlcbkgbcnloaa
open Go.ChangeShapes Go.WideShapes Go.ChangeAt Go.RowKit Go.Joins
open Go.ChangeMaps (open_string shut_string)

theorem FnExactHeadText_walk (a0_0 a0_1 a0_2 a0_3 : Int) (l0 : Bool) (w : World) (f0_0 : (Lit.int .i64 a0_0).wf = true) (f0_1 : (Lit.int .i64 a0_1).wf = true) (f0_2 : (Lit.int .i64 a0_2).wf = true) (f0_3 : (Lit.int .i64 a0_3).wf = true) :
    Calls Try.prog 5 #[.agg #[.int .i64 a0_0, .int .i64 a0_1, .int .i64 a0_2, .int .i64 a0_3, .bool l0]] w fun e w' => e = .returned (.bool true) ∧ Below w.heap.size w w' :=
  FnExactHeadText_over specHeadText implHeadText a0_0 a0_1 a0_2 a0_3 l0 w f0_0 f0_1 f0_2 f0_3

set_option maxRecDepth 100000 in
theorem FnExactHeadText_lifted (os : Os) (started : os.Started) (H : Type) (enc : TypeId × Value → H) :
    ReturnsInHanded {} Try.checked os 5 .any (Rows.fnExactHeadTextSpec.pre6 enc Try.prog Try.f5 Rows.fnExactHeadTextRow.domain false) (Rows.fnExactHeadTextSpec.post enc Try.prog Try.f5 false true false false) := by
  refine returnsInHanded_of_change (C := Try.checked) (by kernel_rfl) started (by kernel_rfl) Try.func5
    (ChangeSpec.witness6 (enc := enc) (C := Try.checked) false ⟨#[], #[.agg #[.int .i64 0, .int .i64 0, .int .i64 0, .int .i64 0, .bool false]], []⟩ 8 (by kernel_rfl) (by kernel_rfl) (by kernel_rfl) (by kernel_rfl)) ?_
  intro W base args ds gs before hval0 hW hcnd _
  have hval : ∀ (j : Nat) t v, Try.f5.params[j]? = some t → args[j]? = some v → Value.okWide Try.prog W .any base t v := hval0
  have hW' := hW
  obtain ⟨p, q, hA0, hV, rfl, hfz, hnd⟩ := hW
  have hA : DataW.TrodAll enc Try.prog W 0 (fun _ => true) true Try.f5.params.toList args.toList ds p := hA0
  rw [Try.params5] at hA hval
  obtain ⟨v0, vs0, d0, ds0, p0, q0, hargs, rfl, rfl, h0, r0⟩ := trodAll_cons hA
  obtain ⟨rfl, rfl, rfl⟩ := trodAll_nil r0
  obtain rfl : args = #[v0] := by cases args; simp_all
  obtain ⟨rfl, rfl⟩ := trodVars_none hV
  have k0 := h0
  have lt0 : ∀ x ∈ p0, x.block < W.heap.size := by obtain ⟨m, hm⟩ := k0; exact DataW.trod_lt m _ _ _ hm
  obtain ⟨a0_0, a0_1, a0_2, a0_3, l0, rfl, f0_0, f0_1, f0_2, f0_3⟩ := open_head (hval 0 46 v0 rfl rfl) h0
  clear hA0 hval0
  refine (FnExactHeadText_walk a0_0 a0_1 a0_2 a0_3 l0 W f0_0 f0_1 f0_2 f0_3).mono fun e W' ⟨he, bel⟩ => ?_
  subst he
  exact ⟨_, rfl, _, _, _, [], _, [], hW', trodAll_mk1 (shut_bool Try.underlying4 _), (trodAll_cons_mk (Below.trod (of_laid) (by kernel_rfl) (of_decide_eq_true (by kernel_rfl)) k0 bel lt0) trodAll_mk0), rfl, bel.frame _, fun h => by cases h⟩

theorem FnExactHeadText_holds : Rows.FnExactHeadTextSaid :=
  OpenClaim.holds_of_wide 5 Try.f5 rfl rfl rfl rfl rfl rfl rfl ⟨rfl, rfl, rfl, rfl, rfl⟩ rfl rfl rfl rfl rfl (by kernel_rfl) Try.func5 (by kernel_rfl)
    (of_decide_eq_true (by kernel_rfl)) (by unfold Func.isWrapper; first | (rw [if_pos (by decide +kernel)]; kernel_rfl) | (rw [if_neg (by decide +kernel)]; exact ⟨rfl, rfl⟩))
    (fun os started H enc _ => FnExactHeadText_lifted os started H enc)

#print axioms FnExactHeadText_holds

end Go.Proofs.Ytcnlcbkgbcnloaa
