/-
  Proved here: at every list of bytes FnBytes returns true, with no condition: what is filled up to a whole byte has that many bits, and a drawn number comes back from its bytes.
-/
import Derived.Test.YtdjpjdjljobalaaRows
import Derived.Test.YtdjpjdjljobalaaBase
import Derived.Test.YtdjpjdjljobalaaOutMath
import Derived.Test.YtdjpjdjljobalaaOutWalks
import Derived.Test.YtdjpjdjljobalaaFillImpl
import Derived.Test.YtdjpjdjljobalaaBigMath
import Derived.Test.YtdjpjdjljobalaaBigTextMath
import Derived.Test.YtdjpjdjljobalaaBigTextWalks
import Derived.Test.YtdjpjdjljobalaaReadImpl
import Derived.Test.YtdjpjdjljobalaaBytesMath
import Derived.Test.YtdjpjdjljobalaaDrawLib
import Derived.Test.YtdjpjdjljobalaaDrawBits
import Derived.Test.YtdjpjdjljobalaaDrawOut
import Derived.WalkKit
import Derived.ProofKit
import Derived.OpenShut
import Derived.ShutString
import Derived.ChangeOld
import Derived.Below
import Derived.Lib.SmallJoins
namespace Go.Proofs.Ytdjpjdjljobalaa
open Go.ChangeShapes Go.WideShapes Go.ChangeAt Go.RowKit Go.Joins OutMath BigMath BigTextMath BytesMath
open Go.ChangeMaps (open_string shut_string)

set_option maxHeartbeats 1600000 in
theorem FnBytes_at (a : Option Addr) (len cap : Nat) (w : World) (hK : CodeAt w w.heap.size a len) (hlen : len ≤ 1048576) :
    Calls Try.prog 4 #[.slice a len cap] w fun e w' => e = .returned (.bool true) ∧ Below w.heap.size w w' := by
  have HK : Hid (CodeAt w w.heap.size a len) := hK
  clear hK
  go_enter Try.func4, Try.ntmps4
  go_wp2_with fail
  refine (big_no a len cap _ (by omega)).mono ?_
  rintro e w1 ⟨rfl, rfl⟩
  go_wp2_with fail
  refine (draw_fillByte a len cap w1.heap.size w1 HK.out hlen (Nat.le_refl _)).mono ?_
  rintro e w2 ⟨s, c, rfl, hs, hc1, hc2, hb2⟩
  cases hO : outB s c
  · go_wp2_with fail
    refine (implFill_no s c _ (by unfold maxLen; omega) hc1 hc2 hO).mono ?_
    rintro e w3 ⟨rfl, hb3⟩
    obtain ⟨k1, f1⟩ := bcell hb3
    have hz3 : w2.heap.size < w3.heap.size := by have := hb3.size; simp at this; omega
    go_wp2_with fail
    refine (specOut_any s c _ (by unfold maxLen; omega) hc1 hc2).mono ?_
    rintro e w4 ⟨rfl, hb4⟩
    rw [hO]
    obtain ⟨k4, f4⟩ := bcell hb4
    have hB3 : Below w1.heap.size w1 w3 := (hb2.alloc hb2.size _).trans (hb3.mono (by have := hb2.size; simp; omega))
    have hB4 : Below w1.heap.size w1 w4 := (hB3.alloc hB3.size _).trans (hb4.mono (by have := hB3.size; simp; omega))
    clear hb3 hb4
    go_wp2_with fail
    refine (draw_bigText a len cap w1.heap.size _ (HK.out.below hB4) hlen (by have := hB4.size; omega)).mono ?_
    rintro e w5 ⟨n, k, rfl, hk0, hk6, hb5⟩
    have hB5 : Below w1.heap.size w1 w5 := hB4.trans hb5
    clear hb5
    by_cases h : 1 ≤ k ∧ k ≤ 4 ∧ 0 ≤ n ∧ n < p2 (8 * k).toNat
    · obtain ⟨h1, h2, h3, h4⟩ := h
      obtain ⟨m, rfl⟩ := Int.eq_ofNat_of_zero_le hk0
      rw [show (8 * (m : Int)).toNat = 8 * m by omega] at h4
      have hsz : (strOfNums (low n m)).size = m := (strOfNums_size _).trans (low_length n m)
      have HB : Hid (rb (wrapT (strOfNums (low n m))) 1 m = n) := rb_whole n m h3 h4
      have HT : Hid (wrapT (strOfNums (low n m)) = ⟨#[120]⟩ ++ strOfNums (low n m) ++ ⟨#[121]⟩) := rfl
      have H4 : Hid (n < p2 (8 * m)) := h4
      have hws := wrapT_size (strOfNums (low n m))
      rw [hsz] at hws
      have HWS : Hid ((wrapT (strOfNums (low n m))).size = m + 2) := hws
      clear h4 hws
      go_wp2_with fail
      refine (implBig_yes n m _ h3 (by omega) (by omega) H4.out).mono ?_
      rintro e w6 ⟨rfl, hb6⟩
      go_wp2_with fail
      refine (specBig_yes n m _ h3 (by omega) (by omega) H4.out).mono ?_
      rintro e w7 ⟨rfl, hb7⟩
      go_wp2_with fail
      rw [← HT.out]
      refine (implRead_yes (wrapT (strOfNums (low n m))) 1 m _ (by rw [HWS.out]; omega) (by omega) (by omega) (by rw [HWS.out]; omega)).mono ?_
      rintro e w8 ⟨rfl, rfl⟩
      rw [HB.out]
      go_wp2_with fail
      go_ret
      exact ⟨rfl, (hB5.trans (hb6.mono hB5.size)).trans (hb7.mono (Nat.le_trans hB5.size hb6.size))⟩
    · have H : Hid (¬ (1 ≤ k ∧ k ≤ 4 ∧ 0 ≤ n ∧ n < p2 (8 * k).toNat)) := h
      clear h
      go_wp2_with fail
      refine (implBig_no n k _ H.out).mono ?_
      rintro e w6 ⟨rfl, hb6⟩
      go_wp2_with fail
      refine (specBig_no n k _ H.out).mono ?_
      rintro e w7 ⟨rfl, hb7⟩
      go_wp2_with fail
      refine (implRead_some _ _ k _ (by show 2 ≤ 1048576; omega) (by omega) (by omega) (by omega) (by omega)).mono ?_
      rintro e w8 ⟨m, ok, rfl, rfl⟩
      go_wp2_with fail
      go_ret
      exact ⟨rfl, (hB5.trans (hb6.mono hB5.size)).trans (hb7.mono (Nat.le_trans hB5.size hb6.size))⟩
  · go_wp2_with fail
    refine (implFill_yes s c _ (by unfold maxLen; omega) hc1 hc2 hO).mono ?_
    rintro e w3 ⟨rfl, hb3⟩
    obtain ⟨k1, f1⟩ := bcell hb3
    have hz3 : w2.heap.size < w3.heap.size := by have := hb3.size; simp at this; omega
    go_wp2_with fail
    refine (specOut_any s c _ (by unfold maxLen; omega) hc1 hc2).mono ?_
    rintro e w4 ⟨rfl, hb4⟩
    rw [hO]
    obtain ⟨k4, f4⟩ := bcell hb4
    have hB3 : Below w1.heap.size w1 w3 := (hb2.alloc hb2.size _).trans (hb3.mono (by have := hb2.size; simp; omega))
    have hB4 : Below w1.heap.size w1 w4 := (hB3.alloc hB3.size _).trans (hb4.mono (by have := hB3.size; simp; omega))
    clear hb3 hb4
    go_wp2_with fail
    refine (draw_bigText a len cap w1.heap.size _ (HK.out.below hB4) hlen (by have := hB4.size; omega)).mono ?_
    rintro e w5 ⟨n, k, rfl, hk0, hk6, hb5⟩
    have hB5 : Below w1.heap.size w1 w5 := hB4.trans hb5
    clear hb5
    by_cases h : 1 ≤ k ∧ k ≤ 4 ∧ 0 ≤ n ∧ n < p2 (8 * k).toNat
    · obtain ⟨h1, h2, h3, h4⟩ := h
      obtain ⟨m, rfl⟩ := Int.eq_ofNat_of_zero_le hk0
      rw [show (8 * (m : Int)).toNat = 8 * m by omega] at h4
      have hsz : (strOfNums (low n m)).size = m := (strOfNums_size _).trans (low_length n m)
      have HB : Hid (rb (wrapT (strOfNums (low n m))) 1 m = n) := rb_whole n m h3 h4
      have HT : Hid (wrapT (strOfNums (low n m)) = ⟨#[120]⟩ ++ strOfNums (low n m) ++ ⟨#[121]⟩) := rfl
      have H4 : Hid (n < p2 (8 * m)) := h4
      have hws := wrapT_size (strOfNums (low n m))
      rw [hsz] at hws
      have HWS : Hid ((wrapT (strOfNums (low n m))).size = m + 2) := hws
      clear h4 hws
      go_wp2_with fail
      refine (implBig_yes n m _ h3 (by omega) (by omega) H4.out).mono ?_
      rintro e w6 ⟨rfl, hb6⟩
      go_wp2_with fail
      refine (specBig_yes n m _ h3 (by omega) (by omega) H4.out).mono ?_
      rintro e w7 ⟨rfl, hb7⟩
      go_wp2_with fail
      rw [← HT.out]
      refine (implRead_yes (wrapT (strOfNums (low n m))) 1 m _ (by rw [HWS.out]; omega) (by omega) (by omega) (by rw [HWS.out]; omega)).mono ?_
      rintro e w8 ⟨rfl, rfl⟩
      rw [HB.out]
      go_wp2_with fail
      go_ret
      exact ⟨rfl, (hB5.trans (hb6.mono hB5.size)).trans (hb7.mono (Nat.le_trans hB5.size hb6.size))⟩
    · have H : Hid (¬ (1 ≤ k ∧ k ≤ 4 ∧ 0 ≤ n ∧ n < p2 (8 * k).toNat)) := h
      clear h
      go_wp2_with fail
      refine (implBig_no n k _ H.out).mono ?_
      rintro e w6 ⟨rfl, hb6⟩
      go_wp2_with fail
      refine (specBig_no n k _ H.out).mono ?_
      rintro e w7 ⟨rfl, hb7⟩
      go_wp2_with fail
      refine (implRead_some _ _ k _ (by show 2 ≤ 1048576; omega) (by omega) (by omega) (by omega) (by omega)).mono ?_
      rintro e w8 ⟨m, ok, rfl, rfl⟩
      go_wp2_with fail
      go_ret
      exact ⟨rfl, (hB5.trans (hb6.mono hB5.size)).trans (hb7.mono (Nat.le_trans hB5.size hb6.size))⟩

theorem FnBytes_walk (a : Option Addr) (len cap : Nat) (zs : List Int) (w : World) (hr : IsRow .u8 w a len cap zs) :
    Calls Try.prog 4 #[.slice a len cap] w fun e w' => e = .returned (.bool true) ∧ Below w.heap.size w w' := by
  obtain ⟨hK, hl, hm⟩ := codeAt_of_row hr
  unfold maxLen at hm
  by_cases h : len ≤ 1048576
  · exact FnBytes_at a len cap w hK h
  · go_enter Try.func4, Try.ntmps4
    go_wp2_with fail
    refine (big_yes a len cap _ (by omega) (by omega)).mono ?_
    rintro e w1 ⟨rfl, rfl⟩
    go_wp2_with fail
    go_ret
    exact ⟨rfl, Below.refl _ _⟩

set_option maxRecDepth 100000 in
theorem FnBytes_lifted (os : Os) (started : os.Started) (H : Type) (enc : TypeId × Value → H) :
    ReturnsInHanded {} Try.checked os 4 .any (Rows.fnBytesSpec.pre6 enc Try.prog Try.f4 Rows.fnBytesRow.domain false) (Rows.fnBytesSpec.post enc Try.prog Try.f4 false true false false) := by
  refine returnsInHanded_of_change (C := Try.checked) (by kernel_rfl) started (by kernel_rfl) Try.func4
    (ChangeSpec.witness6 (enc := enc) (C := Try.checked) false ⟨#[], #[.slice none 0 0], []⟩ 8 (by kernel_rfl) (by kernel_rfl) (by kernel_rfl) (by kernel_rfl)) ?_
  intro W base args ds gs before hval0 hW hcnd _
  have hval : ∀ (j : Nat) t v, Try.f4.params[j]? = some t → args[j]? = some v → Value.okWide Try.prog W .any base t v := hval0
  have hW' := hW
  obtain ⟨p, q, hA0, hV, rfl, hfz, hnd⟩ := hW
  have hA : DataW.TrodAll enc Try.prog W 0 (fun _ => true) true Try.f4.params.toList args.toList ds p := hA0
  rw [Try.params4] at hA hval
  obtain ⟨v0, vs0, d0, ds0, p0, q0, hargs, rfl, rfl, h0, r0⟩ := trodAll_cons hA
  obtain ⟨rfl, rfl, rfl⟩ := trodAll_nil r0
  obtain rfl : args = #[v0] := by cases args; simp_all
  obtain ⟨rfl, rfl⟩ := trodVars_none hV
  have k0 := h0
  have lt0 : ∀ x ∈ p0, x.block < W.heap.size := by obtain ⟨m, hm⟩ := k0; exact DataW.trod_lt m _ _ _ hm
  obtain ⟨a0, len0, cap0, rfl⟩ := okWide_slice Try.underlying22 (hval 0 22 v0 rfl rfl)
  obtain ⟨z0, f0⟩ : ∃ zs, IsRow .u8 W a0 len0 cap0 zs := by
    obtain ⟨fuel, hf⟩ := h0
    rcases open_ints Try.underlying22 Try.underlying5 (by kernel_rfl) hf with ⟨hcs, _⟩ | ⟨x, l, c, zs, hcs, _, hl, hm, hz, _, hcell, hwz⟩
    · simp [Value.cells] at hcs
      obtain ⟨rfl, rfl, rfl⟩ := hcs
      exact ⟨[], .inl ⟨rfl, rfl, rfl, rfl⟩⟩
    · simp [Value.cells] at hcs
      obtain ⟨rfl, rfl, rfl⟩ := hcs
      exact ⟨zs, .inr ⟨_, rfl, hl, hm, by simpa using hz, hcell, hwz⟩⟩
  clear hA0 hval0
  refine (FnBytes_walk a0 len0 cap0 z0 W f0).mono fun e W' ⟨he, bel⟩ => ?_
  subst he
  exact ⟨_, rfl, _, _, _, [], _, [], hW', trodAll_mk1 (shut_bool Try.underlying4 _), (trodAll_cons_mk (Below.trod (of_laid) (by kernel_rfl) (of_decide_eq_true (by kernel_rfl)) k0 bel lt0) trodAll_mk0), rfl, bel.frame _, fun h => by cases h⟩

theorem FnBytes_holds : Rows.FnBytesSaid :=
  OpenClaim.holds_of_wide 4 Try.f4 rfl rfl rfl rfl rfl rfl rfl ⟨rfl, rfl, rfl, rfl, rfl⟩ rfl rfl rfl rfl rfl (by kernel_rfl) Try.func4 (by kernel_rfl)
    (of_decide_eq_true (by kernel_rfl)) (by unfold Func.isWrapper; first | (rw [if_pos (by decide +kernel)]; kernel_rfl) | (rw [if_neg (by decide +kernel)]; exact ⟨rfl, rfl⟩))
    (fun os started H enc _ => FnBytes_lifted os started H enc)

#print axioms FnBytes_holds
end Go.Proofs.Ytdjpjdjljobalaa
