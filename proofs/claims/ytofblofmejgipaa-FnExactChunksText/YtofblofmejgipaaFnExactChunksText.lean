/-
  Proved here: for every list of chunks impl.ChunksText answers as the document's model does and leaves its argument as it was (lists of more than 1048576 bytes and chunks together are let by in the law itself); the law returns true and its argument reads as before.
-/
import Derived.Test.YtofblofmejgipaaRows
import Derived.Test.YtofblofmejgipaaBase
import Derived.Test.YtofblofmejgipaaChkLib
import Derived.Test.YtofblofmejgipaaChkWalks
import Derived.Test.YtofblofmejgipaaChkOpen
import Derived.Test.YtofblofmejgipaaChunksLaw
import Derived.WalkKit
import Derived.ProofKit
import Derived.OpenShut
import Derived.ShutString
import Derived.ChangeOld
import Derived.Below
import Derived.Lib.SmallJoins
namespace Go.Proofs.Ytofblofmejgipaa
open Go.ChangeShapes Go.WideShapes Go.ChangeAt Go.RowKit Go.Joins
open Go.ChangeMaps (open_string shut_string)

theorem FnExactChunksText_walk (a0 : Option Addr) (len0 cap0 : Nat) (z0 : List (ByteArray × ByteArray)) (w : World) (f0 : len0 = z0.length) (g0 : KCame w a0 len0 (fun j => z0.getD j (ByteArray.empty, ByteArray.empty))) (m0 : ∀ r ∈ z0, r.1.size ≤ maxLen ∧ r.2.size ≤ maxLen) (n0 : len0 ≤ maxLen) :
    Calls Try.prog 8 #[.slice a0 len0 cap0] w fun e w' => e = .returned (.bool true) ∧ Below w.heap.size w w' :=
  FnExactChunksText_over  a0 len0 cap0 z0 w f0 g0 m0 n0

set_option maxRecDepth 100000 in
theorem FnExactChunksText_lifted (os : Os) (started : os.Started) (H : Type) (enc : TypeId × Value → H) :
    ReturnsInHanded {} Try.checked os 8 .any (Rows.fnExactChunksTextSpec.pre6 enc Try.prog Try.f8 Rows.fnExactChunksTextRow.domain false) (Rows.fnExactChunksTextSpec.post enc Try.prog Try.f8 false true false false) := by
  refine returnsInHanded_of_change (C := Try.checked) (by kernel_rfl) started (by kernel_rfl) Try.func8
    (ChangeSpec.witness6 (enc := enc) (C := Try.checked) false ⟨#[], #[.slice none 0 0], []⟩ 8 (by kernel_rfl) (by kernel_rfl) (by kernel_rfl) (by kernel_rfl)) ?_
  intro W base args ds gs before hval0 hW hcnd _
  have hval : ∀ (j : Nat) t v, Try.f8.params[j]? = some t → args[j]? = some v → Value.okWide Try.prog W .any base t v := hval0
  have hW' := hW
  obtain ⟨p, q, hA0, hV, rfl, hfz, hnd⟩ := hW
  have hA : DataW.TrodAll enc Try.prog W 0 (fun _ => true) true Try.f8.params.toList args.toList ds p := hA0
  rw [Try.params8] at hA hval
  obtain ⟨v0, vs0, d0, ds0, p0, q0, hargs, rfl, rfl, h0, r0⟩ := trodAll_cons hA
  obtain ⟨rfl, rfl, rfl⟩ := trodAll_nil r0
  obtain rfl : args = #[v0] := by cases args; simp_all
  obtain ⟨rfl, rfl⟩ := trodVars_none hV
  have k0 := h0
  have lt0 : ∀ x ∈ p0, x.block < W.heap.size := by obtain ⟨m, hm⟩ := k0; exact DataW.trod_lt m _ _ _ hm
  obtain ⟨a0, len0, cap0, rfl⟩ := okWide_slice Try.underlying37 (hval 0 37 v0 rfl rfl)
  obtain ⟨z0, f0, g0, m0, n0⟩ : ∃ L : List (ByteArray × ByteArray), len0 = L.length ∧ KCame W a0 len0 (fun j => L.getD j (ByteArray.empty, ByteArray.empty)) ∧ (∀ r ∈ L, r.1.size ≤ maxLen ∧ r.2.size ≤ maxLen) ∧ len0 ≤ maxLen := by
    obtain ⟨fuel, hf⟩ := h0
    exact open_chunks hf
  clear hA0 hval0
  refine (FnExactChunksText_walk a0 len0 cap0 z0 W f0 g0 m0 n0).mono fun e W' ⟨he, bel⟩ => ?_
  subst he
  exact ⟨_, rfl, _, _, _, [], _, [], hW', trodAll_mk1 (shut_bool Try.underlying4 _), (trodAll_cons_mk (Below.trod (of_laid) (by kernel_rfl) (of_decide_eq_true (by kernel_rfl)) k0 bel lt0) trodAll_mk0), rfl, bel.frame _, fun h => by cases h⟩

theorem FnExactChunksText_holds : Rows.FnExactChunksTextSaid :=
  OpenClaim.holds_of_wide 8 Try.f8 rfl rfl rfl rfl rfl rfl rfl ⟨rfl, rfl, rfl, rfl, rfl⟩ rfl rfl rfl rfl rfl (by kernel_rfl) Try.func8 (by kernel_rfl)
    (of_decide_eq_true (by kernel_rfl)) (by unfold Func.isWrapper; first | (rw [if_pos (by decide +kernel)]; kernel_rfl) | (rw [if_neg (by decide +kernel)]; exact ⟨rfl, rfl⟩))
    (fun os started H enc _ => FnExactChunksText_lifted os started H enc)

#print axioms FnExactChunksText_holds

end Go.Proofs.Ytofblofmejgipaa
