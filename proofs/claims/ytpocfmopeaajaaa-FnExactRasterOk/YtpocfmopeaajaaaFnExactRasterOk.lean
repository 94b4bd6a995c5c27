/-
  Proved here: at every raster RasterOk answers as the document's model, and turns nothing of it.
-/
import Derived.Test.YtpocfmopeaajaaaRows
import Derived.Test.YtpocfmopeaajaaaBase
import Derived.Test.YtpocfmopeaajaaaRowLib
import Derived.Test.YtpocfmopeaajaaaRasterOpen
import Derived.Test.YtpocfmopeaajaaaRasterLaw
import Derived.WalkKit
import Derived.ProofKit
import Derived.OpenShut
import Derived.ShutString
import Derived.ChangeOld
import Derived.Below
import Derived.Lib.SmallJoins
namespace Go.Proofs.Ytpocfmopeaajaaa
open Go.ChangeShapes Go.WideShapes Go.ChangeAt Go.RowKit Go.Joins
open Go.ChangeMaps (open_string shut_string)

theorem FnExactRasterOk_walk (a0_0 a0_1 a0_2 a0_3 : Int) (a0 : Option Addr) (len0 cap0 : Nat) (z0 : List Int) (w : World) (f0_0 : (Lit.int .i64 a0_0).wf = true) (f0_1 : (Lit.int .i64 a0_1).wf = true) (f0_2 : (Lit.int .i64 a0_2).wf = true) (f0_3 : (Lit.int .i64 a0_3).wf = true) (f0 : IsRow .i64 w a0 len0 cap0 z0) :
    Calls Try.prog 4 #[.agg #[.int .i64 a0_0, .int .i64 a0_1, .int .i64 a0_2, .int .i64 a0_3, .slice a0 len0 cap0]] w fun e w' => e = .returned (.bool true) ∧ Below w.heap.size w w' :=
  rasterOk_law a0_0 a0_1 a0_2 a0_3 a0 len0 cap0 z0 w f0_0 f0_1 f0_2 f0_3 f0

set_option maxRecDepth 100000 in
theorem FnExactRasterOk_lifted (os : Os) (started : os.Started) (H : Type) (enc : TypeId × Value → H) :
    ReturnsInHanded {} Try.checked os 4 .any (Rows.fnExactRasterOkSpec.pre6 enc Try.prog Try.f4 Rows.fnExactRasterOkRow.domain false) (Rows.fnExactRasterOkSpec.post enc Try.prog Try.f4 false true false false) := by
  refine returnsInHanded_of_change (C := Try.checked) (by kernel_rfl) started (by kernel_rfl) Try.func4
    (ChangeSpec.witness6 (enc := enc) (C := Try.checked) false ⟨#[], #[.agg #[.int .i64 0, .int .i64 0, .int .i64 0, .int .i64 0, .slice none 0 0]], []⟩ 8 (by kernel_rfl) (by kernel_rfl) (by kernel_rfl) (by kernel_rfl)) ?_
  intro W base args ds gs before hval0 hW hcnd _
  have hval : ∀ (j : Nat) t v, Try.f4.params[j]? = some t → args[j]? = some v → Value.okWide Try.prog W .any base t v := hval0
  have hW' := hW
  obtain ⟨p, q, hA0, hV, rfl, hfz, hnd⟩ := hW
  have hA : DataW.TrodAll enc Try.prog W 0 (fun _ => true) true Try.f4.params.toList args.toList ds p := hA0
  rw [Try.params4] at hA hval
  obtain ⟨v0, vs0, d0, ds0, p0, q0, hargs, rfl, rfl, h0, r0⟩ := trodAll_cons hA
  obtain ⟨rfl, rfl, rfl⟩ := trodAll_nil r0
  obtain rfl : args = #[v0] := by cases args; simp_all
  obtain ⟨rfl, rfl⟩ := trodVars_none hV
  have k0 := h0
  have lt0 : ∀ x ∈ p0, x.block < W.heap.size := by obtain ⟨m, hm⟩ := k0; exact DataW.trod_lt m _ _ _ hm
  obtain ⟨a0_0, a0_1, a0_2, a0_3, a0, len0, cap0, z0, rfl, f0_0, f0_1, f0_2, f0_3, f0⟩ := open_raster (hval 0 33 v0 rfl rfl) h0
  clear hA0 hval0
  refine (FnExactRasterOk_walk a0_0 a0_1 a0_2 a0_3 a0 len0 cap0 z0 W f0_0 f0_1 f0_2 f0_3 f0).mono fun e W' ⟨he, bel⟩ => ?_
  subst he
  exact ⟨_, rfl, _, _, _, [], _, [], hW', trodAll_mk1 (shut_bool Try.underlying4 _), (trodAll_cons_mk (Below.trod (of_laid) (by kernel_rfl) (of_decide_eq_true (by kernel_rfl)) k0 bel lt0) trodAll_mk0), rfl, bel.frame _, fun h => by cases h⟩

theorem FnExactRasterOk_holds : Rows.FnExactRasterOkSaid :=
  OpenClaim.holds_of_wide 4 Try.f4 rfl rfl rfl rfl rfl rfl rfl ⟨rfl, rfl, rfl, rfl, rfl⟩ rfl rfl rfl rfl rfl (by kernel_rfl) Try.func4 (by kernel_rfl)
    (of_decide_eq_true (by kernel_rfl)) (by unfold Func.isWrapper; first | (rw [if_pos (by decide +kernel)]; kernel_rfl) | (rw [if_neg (by decide +kernel)]; exact ⟨rfl, rfl⟩))
    (fun os started H enc _ => FnExactRasterOk_lifted os started H enc)

#print axioms FnExactRasterOk_holds

end Go.Proofs.Ytpocfmopeaajaaa
