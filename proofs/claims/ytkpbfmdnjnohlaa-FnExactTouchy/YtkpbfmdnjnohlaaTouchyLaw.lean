/-
  FnExactTouchy over what the model and the program answer. (Printed by tools/mkpnglaw.py Touchy.)
-/
import Derived.Test.YtkpbfmdnjnohlaaRows
import Derived.Test.YtkpbfmdnjnohlaaBase
import Derived.Test.YtkpbfmdnjnohlaaPartLen12
import Derived.Test.YtkpbfmdnjnohlaaPngMem
import Derived.Test.YtkpbfmdnjnohlaaPngArgs
import Derived.Test.YtkpbfmdnjnohlaaPngTo
import Derived.Test.YtkpbfmdnjnohlaaPngEq
import Derived.Test.YtkpbfmdnjnohlaaPngBox
import Derived.Test.YtkpbfmdnjnohlaaTouchySpec
import Derived.WalkKit
import Derived.ProofKit
import Derived.WalkLawsBesides
import Derived.Deep.RegionHeld3
import Derived.BigQuiet
import Derived.Below
import Derived.Lib.SmallJoins
namespace Go.Proofs.Ytkpbfmdnjnohlaa
open Go.RowKit Go.Joins OutMath PutMath RastMath HeadMath ChunkMath

set_option maxRecDepth 100000 in
set_option maxHeartbeats 6400000 in
theorem FnExactTouchy_over
    (hx : ∀ p q w, PngIn w p q → PngSz p → Calls Try.prog 15 #[pngV p q] w (TouchyPost p.kn p.K w))
    (hy : ∀ p q w, PngIn w p q → PngSz p → Calls Try.prog 16 #[pngV p q] w (TouchyPost p.kn p.K w))
    (p : Pic) (q : PicA) (w : World) (hP : PngIn w p q) (ht : p.tn ≤ maxLen) (hc : p.cn ≤ maxLen) (hs : p.sn ≤ maxLen) (hk : p.kn ≤ maxLen) (hm : ∀ i, i < p.kn → (p.K i).1.size ≤ maxLen ∧ (p.K i).2.size ≤ maxLen) :
    Calls Try.prog 4 #[pngV p q] w fun e w' => e = .returned (.bool true) ∧ Below w.heap.size w w' := by
  have hsz := fun W h => szPng_any p q W h ht hc hs hk hm
  have hto := fun W h hz => toPng_any p q W h hz
  have heq := fun r1 r2 W h1 h2 hz => eqPng_same p r1 r2 W h1 h2 hz
  have hx1 := fun r W h hz => hx p r W h hz
  have hy1 := fun r W h hz => hy p r W h hz
  clear ht hc hs hk hm hx hy
  have HP := hid_of hP
  clear hP
  obtain ⟨hw, hh, hd, hc', lace, tn, T, cn, C, rw', rh, rc, rd, sn, S, kn, K⟩ := p
  obtain ⟨ta, tc, ca, cc, sa, sc, ka, kc⟩ := q
  simp only [pngV] at hsz hto heq hx1 hy1 ⊢
  have H0 : Hid (LBox w (w.alloc (.cells #[.int .i64 hw, .int .i64 hh, .int .i64 hd, .int .i64 hc', .bool lace, .slice ta tn tc, .slice ca cn cc, .int .i64 rw', .int .i64 rh, .int .i64 rc, .int .i64 rd, .slice sa sn sc, .slice ka kn kc] 30)) #[.int .i64 hw, .int .i64 hh, .int .i64 hd, .int .i64 hc', .bool lace, .slice ta tn tc, .slice ca cn cc, .int .i64 rw', .int .i64 rh, .int .i64 rc, .int .i64 rd, .slice sa sn sc, .slice ka kn kc]) := ⟨heap_alloc_new w _, bstart w _⟩
  go_enter Try.func4, Try.ntmps4
  go_wp2_with fail
  refine (hsz _ (HP.out.called H0.out.2)).mono ?_
  rintro e w1 ⟨z, rfl, hz, hB⟩
  have H1 := hid_of (H0.out.called hB)
  clear hB H0 hsz
  rcases hz with hz | ⟨hz, hZ⟩
  · have dz : decide (z < 0) = true := decide_eq_true hz
    clear hz
    go_wp2_with fail
    go_ret
    exact ⟨rfl, H1.out.2⟩
  have dz : decide (z < 0) = false := decide_eq_false (by omega)
  have HZ := hid_of hZ
  clear hz hZ
  have l0 := block_lt H1.out.1
  have a0 := (cell_of_block H1.out.1 0).trans rfl
  have a1 := (cell_of_block H1.out.1 1).trans rfl
  have a2 := (cell_of_block H1.out.1 2).trans rfl
  have a3 := (cell_of_block H1.out.1 3).trans rfl
  have a4 := (cell_of_block H1.out.1 4).trans rfl
  have a5 := (cell_of_block H1.out.1 5).trans rfl
  have a6 := (cell_of_block H1.out.1 6).trans rfl
  have a7 := (cell_of_block H1.out.1 7).trans rfl
  have a8 := (cell_of_block H1.out.1 8).trans rfl
  have a9 := (cell_of_block H1.out.1 9).trans rfl
  have a10 := (cell_of_block H1.out.1 10).trans rfl
  have a11 := (cell_of_block H1.out.1 11).trans rfl
  have a12 := (cell_of_block H1.out.1 12).trans rfl
  go_wp2_with fail
  clear l0 a0 a1 a2 a3 a4 a5 a6 a7 a8 a9 a10 a11 a12
  refine (hto _ (HP.out.called H1.out.2) HZ.out).mono ?_
  rintro e w2 ⟨gt1, gc1, gs1, gk1, he, hO, hB⟩
  simp only [pngV, picA] at he
  subst he
  have H2 := hid_of (H1.out.called hB)
  have O2 := hid_of hO
  clear hB hO H1
  go_wp2_with fail
  refine (hx1 (picA ⟨hw, hh, hd, hc', lace, tn, T, cn, C, rw', rh, rc, rd, sn, S, kn, K⟩ gt1 gc1 gs1 gk1) _ (O2.out.lie HZ.out) HZ.out).mono ?_
  rintro e w3 ⟨b, rfl, hb, hB⟩
  have H3 := hid_of (H2.out.called hB)
  have HB := hid_of hb
  clear hB hb H2 O2
  have l0 := block_lt H3.out.1
  have a0 := (cell_of_block H3.out.1 0).trans rfl
  have a1 := (cell_of_block H3.out.1 1).trans rfl
  have a2 := (cell_of_block H3.out.1 2).trans rfl
  have a3 := (cell_of_block H3.out.1 3).trans rfl
  have a4 := (cell_of_block H3.out.1 4).trans rfl
  have a5 := (cell_of_block H3.out.1 5).trans rfl
  have a6 := (cell_of_block H3.out.1 6).trans rfl
  have a7 := (cell_of_block H3.out.1 7).trans rfl
  have a8 := (cell_of_block H3.out.1 8).trans rfl
  have a9 := (cell_of_block H3.out.1 9).trans rfl
  have a10 := (cell_of_block H3.out.1 10).trans rfl
  have a11 := (cell_of_block H3.out.1 11).trans rfl
  have a12 := (cell_of_block H3.out.1 12).trans rfl
  go_wp2_with fail
  clear l0 a0 a1 a2 a3 a4 a5 a6 a7 a8 a9 a10 a11 a12
  refine (hto _ (HP.out.called H3.out.2) HZ.out).mono ?_
  rintro e w4 ⟨gt2, gc2, gs2, gk2, he, hO, hB⟩
  simp only [pngV, picA] at he
  subst he
  have H4 := hid_of (H3.out.called hB)
  have O4 := hid_of hO
  clear hB hO H3
  go_wp2_with fail
  have H5 : Hid (LBox w (w4.alloc (.cells #[.int .i64 hw, .int .i64 hh, .int .i64 hd, .int .i64 hc', .bool lace, .slice (some ⟨gt2, 0, none⟩) tn tn, .slice (some ⟨gc2, 0, none⟩) cn cn, .int .i64 rw', .int .i64 rh, .int .i64 rc, .int .i64 rd, .slice (some ⟨gs2, 0, none⟩) sn sn, .slice (some ⟨gk2, 0, none⟩) kn kn] 41)) #[.int .i64 hw, .int .i64 hh, .int .i64 hd, .int .i64 hc', .bool lace, .slice ta tn tc, .slice ca cn cc, .int .i64 rw', .int .i64 rh, .int .i64 rc, .int .i64 rd, .slice sa sn sc, .slice ka kn kc]) := hid_of (H4.out.called (bstart _ _))
  have X5 : Hid (BoxAt (w4.alloc (.cells #[.int .i64 hw, .int .i64 hh, .int .i64 hd, .int .i64 hc', .bool lace, .slice (some ⟨gt2, 0, none⟩) tn tn, .slice (some ⟨gc2, 0, none⟩) cn cn, .int .i64 rw', .int .i64 rh, .int .i64 rc, .int .i64 rd, .slice (some ⟨gs2, 0, none⟩) sn sn, .slice (some ⟨gk2, 0, none⟩) kn kn] 41)) w4.heap.size #[.int .i64 hw, .int .i64 hh, .int .i64 hd, .int .i64 hc', .bool lace, .slice (some ⟨gt2, 0, none⟩) tn tn, .slice (some ⟨gc2, 0, none⟩) cn cn, .int .i64 rw', .int .i64 rh, .int .i64 rc, .int .i64 rd, .slice (some ⟨gs2, 0, none⟩) sn sn, .slice (some ⟨gk2, 0, none⟩) kn kn]) := hid_of (heap_alloc_new _ _)
  have O5 : Hid (PngOwn (w4.alloc (.cells #[.int .i64 hw, .int .i64 hh, .int .i64 hd, .int .i64 hc', .bool lace, .slice (some ⟨gt2, 0, none⟩) tn tn, .slice (some ⟨gc2, 0, none⟩) cn cn, .int .i64 rw', .int .i64 rh, .int .i64 rc, .int .i64 rd, .slice (some ⟨gs2, 0, none⟩) sn sn, .slice (some ⟨gk2, 0, none⟩) kn kn] 41)) w3.heap.size ⟨hw, hh, hd, hc', lace, tn, T, cn, C, rw', rh, rc, rd, sn, S, kn, K⟩ gt2 gc2 gs2 gk2) := hid_of (O4.out.called (bstart _ _))
  generalize w4.alloc (.cells #[.int .i64 hw, .int .i64 hh, .int .i64 hd, .int .i64 hc', .bool lace, .slice (some ⟨gt2, 0, none⟩) tn tn, .slice (some ⟨gc2, 0, none⟩) cn cn, .int .i64 rw', .int .i64 rh, .int .i64 rc, .int .i64 rd, .slice (some ⟨gs2, 0, none⟩) sn sn, .slice (some ⟨gk2, 0, none⟩) kn kn] 41) = w5 at H5 X5 O5 ⊢
  generalize w4.heap.size = X at X5 ⊢
  clear H4 O4
  refine (hy1 (picA ⟨hw, hh, hd, hc', lace, tn, T, cn, C, rw', rh, rc, rd, sn, S, kn, K⟩ gt2 gc2 gs2 gk2) _ (O5.out.lie HZ.out) HZ.out).mono ?_
  rintro e w6 ⟨b2, rfl, hb, hB⟩
  obtain rfl : b2 = b := by
    cases b <;> cases b2
    · rfl
    · exact absurd (HB.out.mpr (hb.mp rfl)) (by simp)
    · exact absurd (hb.mpr (HB.out.mp rfl)) (by simp)
    · rfl
  have nb : (b2 != b2) = false := by simp
  have H6 := hid_of (H5.out.called hB)
  have X6 := hid_of (X5.out.called hB)
  have O6 := hid_of (O5.out.called hB)
  clear hB hb H5 X5 O5
  go_wp2_with fail
  have HS0 : LawS w #[.int .i64 hw, .int .i64 hh, .int .i64 hd, .int .i64 hc', .bool lace, .slice ta tn tc, .slice ca cn cc, .int .i64 rw', .int .i64 rh, .int .i64 rc, .int .i64 rd, .slice sa sn sc, .slice ka kn kc] X #[.int .i64 hw, .int .i64 hh, .int .i64 hd, .int .i64 hc', .bool lace, .slice (some ⟨gt2, 0, none⟩) tn tn, .slice (some ⟨gc2, 0, none⟩) cn cn, .int .i64 rw', .int .i64 rh, .int .i64 rc, .int .i64 rd, .slice (some ⟨gs2, 0, none⟩) sn sn, .slice (some ⟨gk2, 0, none⟩) kn kn] ⟨hw, hh, hd, hc', lace, tn, T, cn, C, rw', rh, rc, rd, sn, S, kn, K⟩ ⟨ta, tc, ca, cc, sa, sc, ka, kc⟩ (picA ⟨hw, hh, hd, hc', lace, tn, T, cn, C, rw', rh, rc, rd, sn, S, kn, K⟩ gt2 gc2 gs2 gk2) w6.drew := ⟨H6.out.drew, X6.out.called (bdraws (Below.refl _ _) 1), (HP.out.called H6.out.2).called (bdraws (Below.refl _ _) 1), (O6.out.lie HZ.out).called (bdraws (Below.refl _ _) 1)⟩
  clear H6 X6 O6
  refine wp_region_held (S := LawS w #[.int .i64 hw, .int .i64 hh, .int .i64 hd, .int .i64 hc', .bool lace, .slice ta tn tc, .slice ca cn cc, .int .i64 rw', .int .i64 rh, .int .i64 rc, .int .i64 rd, .slice sa sn sc, .slice ka kn kc] X #[.int .i64 hw, .int .i64 hh, .int .i64 hd, .int .i64 hc', .bool lace, .slice (some ⟨gt2, 0, none⟩) tn tn, .slice (some ⟨gc2, 0, none⟩) cn cn, .int .i64 rw', .int .i64 rh, .int .i64 rc, .int .i64 rd, .slice (some ⟨gs2, 0, none⟩) sn sn, .slice (some ⟨gk2, 0, none⟩) kn kn] ⟨hw, hh, hd, hc', lace, tn, T, cn, C, rw', rh, rc, rd, sn, S, kn, K⟩ ⟨ta, tc, ca, cc, sa, sc, ka, kc⟩ (picA ⟨hw, hh, hd, hc', lace, tn, T, cn, C, rw', rh, rc, rd, sn, S, kn, K⟩ gt2 gc2 gs2 gk2)) (by kernel_rfl) ?_
  show wpAnyH _ _ _ _ _ _ _ _ w6.drew
  generalize w6.drew = u0 at HS0 ⊢
  refine wpAnyH_take (i := 0) (v := .agg #[.int .i64 hw, .int .i64 hh, .int .i64 hd, .int .i64 hc', .bool lace, .slice (some ⟨gt2, 0, none⟩) tn tn, .slice (some ⟨gc2, 0, none⟩) cn cn, .int .i64 rw', .int .i64 rh, .int .i64 rc, .int .i64 rd, .slice (some ⟨gs2, 0, none⟩) sn sn, .slice (some ⟨gk2, 0, none⟩) kn kn]) rfl (by kernel_rfl) (by kernel_rfl) (by kernel_rfl) (fun _ _ _ h => h) (Or.inl ⟨by rfl, ?_⟩) HS0 ?_
  · intro w' hS
    have c0 := (cell_of_block hS.2.1 0).trans rfl; have c1 := (cell_of_block hS.2.1 1).trans rfl; have c2 := (cell_of_block hS.2.1 2).trans rfl; have c3 := (cell_of_block hS.2.1 3).trans rfl; have c4 := (cell_of_block hS.2.1 4).trans rfl; have c5 := (cell_of_block hS.2.1 5).trans rfl; have c6 := (cell_of_block hS.2.1 6).trans rfl; have c7 := (cell_of_block hS.2.1 7).trans rfl; have c8 := (cell_of_block hS.2.1 8).trans rfl; have c9 := (cell_of_block hS.2.1 9).trans rfl; have c10 := (cell_of_block hS.2.1 10).trans rfl; have c11 := (cell_of_block hS.2.1 11).trans rfl; have c12 := (cell_of_block hS.2.1 12).trans rfl; have cl := block_lt hS.2.1
    go_simp
  simp only [Act.put, List.getElem_toArray, List.getElem_cons_zero, List.setIfInBounds_toArray, List.set_cons_zero, List.set_cons_succ]
  refine wpAnyH_take (i := 1) (v := .agg #[.int .i64 hw, .int .i64 hh, .int .i64 hd, .int .i64 hc', .bool lace, .slice ta tn tc, .slice ca cn cc, .int .i64 rw', .int .i64 rh, .int .i64 rc, .int .i64 rd, .slice sa sn sc, .slice ka kn kc]) rfl (by kernel_rfl) (by kernel_rfl) (by kernel_rfl) (fun _ _ _ h => h) (Or.inl ⟨by rfl, ?_⟩) HS0 ?_
  · intro w' hS
    have c0 := (cell_of_block hS.1.1 0).trans rfl; have c1 := (cell_of_block hS.1.1 1).trans rfl; have c2 := (cell_of_block hS.1.1 2).trans rfl; have c3 := (cell_of_block hS.1.1 3).trans rfl; have c4 := (cell_of_block hS.1.1 4).trans rfl; have c5 := (cell_of_block hS.1.1 5).trans rfl; have c6 := (cell_of_block hS.1.1 6).trans rfl; have c7 := (cell_of_block hS.1.1 7).trans rfl; have c8 := (cell_of_block hS.1.1 8).trans rfl; have c9 := (cell_of_block hS.1.1 9).trans rfl; have c10 := (cell_of_block hS.1.1 10).trans rfl; have c11 := (cell_of_block hS.1.1 11).trans rfl; have c12 := (cell_of_block hS.1.1 12).trans rfl; have cl := block_lt hS.1.1
    go_simp
  simp only [Act.put, List.getElem_toArray, List.getElem_cons_zero, List.getElem_cons_succ, List.setIfInBounds_toArray, List.set_cons_zero, List.set_cons_succ]
  refine wpAnyH_ready (rs := [2]) (by kernel_rfl) (by simp) ?_
  refine AllReadyH.cons rfl (fun K1 hK => ?_) AllReadyH.nil
  refine if_wanted (wanted_none rfl) ?_
  simp only [List.getElem_toArray, List.getElem_cons_zero, List.getElem_cons_succ]
  go_simp
  refine (hto _ HS0.2.2.1 HZ.out).mono ?_
  rintro e u1 ⟨gt3, gc3, gs3, gk3, he, hO, hB⟩
  simp only [pngV, picA] at he
  subst he
  have HT := HS0.called hB
  refine hK.out _ _ HT (fun HS1 => ?_)
  have HO3 := hid_of hO
  clear hK hB HT hO
  refine wpAnyH_ready (rs := [3]) (by kernel_rfl) (by simp) ?_
  refine AllReadyH.cons rfl (fun K1 hK => ?_) AllReadyH.nil
  refine if_wanted (wanted_none rfl) ?_
  simp only [List.getElem_toArray, List.getElem_cons_zero, List.getElem_cons_succ]
  go_simp
  refine (heq (picA ⟨hw, hh, hd, hc', lace, tn, T, cn, C, rw', rh, rc, rd, sn, S, kn, K⟩ gt2 gc2 gs2 gk2) (picA ⟨hw, hh, hd, hc', lace, tn, T, cn, C, rw', rh, rc, rd, sn, S, kn, K⟩ gt3 gc3 gs3 gk3) _ HS1.2.2.2 (HO3.out.lie HZ.out) HZ.out).mono ?_
  rintro e u2 ⟨rfl, hB⟩
  have HT := HS1.called hB
  refine hK.out _ _ HT (fun HS2 => ?_)
  clear hK hB HT
  refine wpAnyH_take (i := 4) (v := .bool false) rfl (by kernel_rfl) (by kernel_rfl) (by kernel_rfl) (fun _ _ _ h => h) (Or.inl ⟨by rfl, ?_⟩) HS2 ?_
  · intro w' _
    go_simp
  simp only [Act.put, List.getElem_toArray, List.getElem_cons_zero, List.getElem_cons_succ, List.setIfInBounds_toArray, List.set_cons_zero, List.set_cons_succ]
  refine wpAnyH_done (by kernel_rfl) ?_ _
  have HX := hid_of HS2
  clear HS2
  go_wp2_with fail
  go_ret
  exact ⟨rfl, HX.out.1.2⟩
end Go.Proofs.Ytkpbfmdnjnohlaa
