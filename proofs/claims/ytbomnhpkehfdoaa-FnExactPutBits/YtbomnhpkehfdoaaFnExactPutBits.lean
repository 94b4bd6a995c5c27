/-
  Proved here: at every Out, value and number of bits FnExactPutBits returns true, with no condition: impl.PutBits answers as the document's model does.
-/
import Derived.Test.YtbomnhpkehfdoaaRows
import Derived.Test.YtbomnhpkehfdoaaBase
import Derived.Test.YtbomnhpkehfdoaaOutMath
import Derived.Test.YtbomnhpkehfdoaaOutWalks
import Derived.Test.YtbomnhpkehfdoaaMayWalks
import Derived.Test.YtbomnhpkehfdoaaPlacesWalks
import Derived.Test.YtbomnhpkehfdoaaPutBitsWalks
import Derived.WalkKit
import Derived.ProofKit
import Derived.OpenShut
import Derived.ShutString
import Derived.ChangeOld
import Derived.Below
import Derived.Lib.SmallJoins
namespace Go.Proofs.Ytbomnhpkehfdoaa
open Go.ChangeShapes Go.WideShapes Go.ChangeAt Go.RowKit Go.Joins OutMath
open Go.ChangeMaps (open_string shut_string)

/-- The law's walk where both functions answer (t, n, b). -/
theorem FnExactPutBits_at (s t : ByteArray) (c x k n : Int) (b : Bool) (w : World) (hs : (s.size : Int) ≤ 1048576)
    (hx : ∀ w, Calls Try.prog 12 #[.agg #[.string s, .int .i64 c], .int .i64 x, .int .i64 k] w fun e w' => e = .returned (.tuple #[.agg #[.string t, .int .i64 n], .bool b]) ∧ Below w.heap.size w w')
    (hy : ∀ w, Calls Try.prog 7 #[.agg #[.string s, .int .i64 c], .int .i64 x, .int .i64 k] w fun e w' => e = .returned (.tuple #[.agg #[.string t, .int .i64 n], .bool b]) ∧ Below w.heap.size w w') :
    Calls Try.prog 4 #[.agg #[.string s, .int .i64 c], .int .i64 x, .int .i64 k] w fun e w' => e = .returned (.bool true) ∧ Below w.heap.size w w' := by
  have Hx : Hid (∀ w, Calls Try.prog 12 #[.agg #[.string s, .int .i64 c], .int .i64 x, .int .i64 k] w fun e w' => e = .returned (.tuple #[.agg #[.string t, .int .i64 n], .bool b]) ∧ Below w.heap.size w w') := hx
  have Hy : Hid (∀ w, Calls Try.prog 7 #[.agg #[.string s, .int .i64 c], .int .i64 x, .int .i64 k] w fun e w' => e = .returned (.tuple #[.agg #[.string t, .int .i64 n], .bool b]) ∧ Below w.heap.size w w') := hy
  clear hx hy
  have d : ¬ (1048576 : Int) - (s.size : Int) < 0 := by omega
  go_enter Try.func4, Try.ntmps4
  go_wp2_with fail
  refine (szOut_ok s c _ _ (by omega) (by omega) (by omega)).mono ?_
  rintro e w1 ⟨rfl, hb1⟩
  obtain ⟨k1, f1⟩ := bcell hb1
  have z1 : w.heap.size < w1.heap.size := by have := hb1.size; simp at this; omega
  go_wp2_with fail
  refine (toOut_any s c _).mono ?_
  rintro e w2 ⟨rfl, hb2⟩
  go_wp2_with fail
  refine (Hx.out _).mono ?_
  rintro e w3 ⟨rfl, hb3⟩
  have hb := (hb1.trans (hb2.mono hb1.size)).trans (hb3.mono (Nat.le_trans hb1.size hb2.size))
  clear k1 f1
  obtain ⟨k1, f1⟩ := bcell hb
  have z3 : w.heap.size < w3.heap.size := by have := hb.size; simp at this; omega
  go_wp2_with fail
  refine (toOut_any s c _).mono ?_
  rintro e w4 ⟨rfl, hb4⟩
  go_wp2_with fail
  refine (Hy.out _).mono ?_
  rintro e w5 ⟨rfl, hb5⟩
  have hb45 := hb4.trans (hb5.mono hb4.size)
  obtain ⟨k4, f4⟩ := bcell hb45
  have z5 : w3.heap.size < w5.heap.size := by have := hb45.size; simp at this; omega
  go_wp2_with fail
  refine (eqOut_same t n _).mono ?_
  rintro e w6 ⟨rfl, hb6⟩
  go_wp2_with fail
  go_ret
  exact ⟨rfl, bnext (bal (bnext (bal (bnext (bstart _ _) hb) _) hb45) _) hb6⟩

theorem FnExactPutBits_walk (s : ByteArray) (c x k : Int) (w : World) (hs0 : s.size ≤ maxLen) (hwc : (Lit.int .i64 c).wf = true) (_hwx : (Lit.int .i64 x).wf = true) (_hwk : (Lit.int .i64 k).wf = true) :
    Calls Try.prog 4 #[.agg #[.string s, .int .i64 c], .int .i64 x, .int .i64 k] w fun e w' => e = .returned (.bool true) ∧ Below w.heap.size w w' := by
  obtain ⟨hc1, hc2⟩ := bounds_i64 hwc
  by_cases hs : (s.size : Int) ≤ 1048576
  · by_cases h : May s c x k
    · have h0 : 0 ≤ c := (fits_of_outB s c h.1).2.1
      obtain ⟨m, rfl⟩ := Int.eq_ofNat_of_zero_le h.2.1
      obtain ⟨a, rfl⟩ := Int.eq_ofNat_of_zero_le h0
      exact FnExactPutBits_at s _ _ x _ _ _ w hs (fun w => specPutBits_yes s a x m w h) (fun w => implPutBits_yes s a x m w h)
    · exact FnExactPutBits_at s _ c x k _ _ w hs (fun w => specPutBits_no s c x k w hs0 hc1 hc2 h) (fun w => implPutBits_no s c x k w hs0 hc1 hc2 h)
  · have d : (1048576 : Int) < (s.size : Int) := by omega
    go_enter Try.func4, Try.ntmps4
    go_wp2_with fail
    refine (szOut_no s c _ _ hs0 (by omega) (by omega) d).mono ?_
    rintro e w1 ⟨rfl, hb1⟩
    go_wp2_with fail
    go_ret
    exact ⟨rfl, (below_alloc1 _ _).trans (hb1.mono (by simp))⟩

set_option maxRecDepth 100000 in
theorem FnExactPutBits_lifted (os : Os) (started : os.Started) (H : Type) (enc : TypeId × Value → H) :
    ReturnsInHanded {} Try.checked os 4 .any (Rows.fnExactPutBitsSpec.pre6 enc Try.prog Try.f4 Rows.fnExactPutBitsRow.domain false) (Rows.fnExactPutBitsSpec.post enc Try.prog Try.f4 false true false false) := by
  refine returnsInHanded_of_change (C := Try.checked) (by kernel_rfl) started (by kernel_rfl) Try.func4
    (ChangeSpec.witness6 (enc := enc) (C := Try.checked) false ⟨#[], #[.agg #[.string ByteArray.empty, .int .i64 0], .int .i64 0, .int .i64 0], []⟩ 8 (by kernel_rfl) (by kernel_rfl) (by kernel_rfl) (by kernel_rfl)) ?_
  intro W base args ds gs before hval0 hW hcnd _
  have hval : ∀ (j : Nat) t v, Try.f4.params[j]? = some t → args[j]? = some v → Value.okWide Try.prog W .any base t v := hval0
  have hW' := hW
  obtain ⟨p, q, hA0, hV, rfl, hfz, hnd⟩ := hW
  have hA : DataW.TrodAll enc Try.prog W 0 (fun _ => true) true Try.f4.params.toList args.toList ds p := hA0
  rw [Try.params4] at hA hval
  obtain ⟨v0, vs0, d0, ds0, p0, q0, hargs, rfl, rfl, h0, r0⟩ := trodAll_cons hA
  obtain ⟨v1, vs1, d1, ds1, p1, q1, rfl, rfl, rfl, h1, r1⟩ := trodAll_cons r0
  obtain ⟨v2, vs2, d2, ds2, p2, q2, rfl, rfl, rfl, h2, r2⟩ := trodAll_cons r1
  obtain ⟨rfl, rfl, rfl⟩ := trodAll_nil r2
  obtain rfl : args = #[v0, v1, v2] := by cases args; simp_all
  obtain ⟨rfl, rfl⟩ := trodVars_none hV
  have k0 := h0
  have lt0 : ∀ x ∈ p0, x.block < W.heap.size := by obtain ⟨m, hm⟩ := k0; exact DataW.trod_lt m _ _ _ hm
  have k1 := h1
  have lt1 : ∀ x ∈ p1, x.block < W.heap.size := by obtain ⟨m, hm⟩ := k1; exact DataW.trod_lt m _ _ _ hm
  have k2 := h2
  have lt2 : ∀ x ∈ p2, x.block < W.heap.size := by obtain ⟨m, hm⟩ := k2; exact DataW.trod_lt m _ _ _ hm
  obtain ⟨c0_0, c0_1, y0_0, y0_1, m0, rfl, rfl, rfl, hy0_0, hy0_1⟩ := open_agg2 Try.underlying36 (by kernel_rfl) (by kernel_rfl) (hval 0 36 v0 rfl rfl) h0
  obtain ⟨a0_0, e0_0, rfl, f0_0⟩ := DataW.trod_string Try.underlying9 hy0_0
  simp at e0_0
  subst e0_0
  obtain ⟨a0_1, e0_1, rfl, f0_1⟩ := DataW.trod_int Try.underlying3 hy0_1
  simp at e0_1
  subst e0_1
  obtain ⟨a1, rfl, rfl, rfl, f1⟩ := open_int Try.underlying3 (hval 1 3 v1 rfl rfl) h1
  obtain ⟨a2, rfl, rfl, rfl, f2⟩ := open_int Try.underlying3 (hval 2 3 v2 rfl rfl) h2
  clear hA0 hval0
  refine (FnExactPutBits_walk a0_0 a0_1 a1 a2 W f0_0 f0_1 f1 f2).mono fun e W' ⟨he, bel⟩ => ?_
  subst he
  exact ⟨_, rfl, _, _, _, [], _, [], hW', trodAll_mk1 (shut_bool Try.underlying4 _), (trodAll_cons_mk (Below.trod (of_laid) (by kernel_rfl) (of_decide_eq_true (by kernel_rfl)) k0 bel lt0) (trodAll_cons_mk (Below.trod (of_laid) (by kernel_rfl) (of_decide_eq_true (by kernel_rfl)) k1 bel lt1) (trodAll_cons_mk (Below.trod (of_laid) (by kernel_rfl) (of_decide_eq_true (by kernel_rfl)) k2 bel lt2) trodAll_mk0))), rfl, bel.frame _, fun h => by cases h⟩

theorem FnExactPutBits_holds : Rows.FnExactPutBitsSaid :=
  OpenClaim.holds_of_wide 4 Try.f4 rfl rfl rfl rfl rfl rfl rfl ⟨rfl, rfl, rfl, rfl, rfl⟩ rfl rfl rfl rfl rfl (by kernel_rfl) Try.func4 (by kernel_rfl)
    (of_decide_eq_true (by kernel_rfl)) (by unfold Func.isWrapper; first | (rw [if_pos (by decide +kernel)]; kernel_rfl) | (rw [if_neg (by decide +kernel)]; exact ⟨rfl, rfl⟩))
    (fun os started H enc _ => FnExactPutBits_lifted os started H enc)

#print axioms FnExactPutBits_holds
end Go.Proofs.Ytbomnhpkehfdoaa
