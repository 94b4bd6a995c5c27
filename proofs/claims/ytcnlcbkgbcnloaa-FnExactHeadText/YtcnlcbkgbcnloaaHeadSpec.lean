/-
  The walks of the document's model of heads. (Printed by tools/mkhead.py.)
-/
import Derived.Test.YtcnlcbkgbcnloaaRows
import Derived.Test.YtcnlcbkgbcnloaaBase
import Derived.Test.YtcnlcbkgbcnloaaInWalks
import Derived.Test.YtcnlcbkgbcnloaaRastMath
import Derived.Test.YtcnlcbkgbcnloaaRastSpec
import Derived.Test.YtcnlcbkgbcnloaaBigSpec
import Derived.Test.YtcnlcbkgbcnloaaReadSpec
import Derived.Test.YtcnlcbkgbcnloaaHeadMath
import Derived.Test.YtcnlcbkgbcnloaaHeadAns
import Derived.Test.YtcnlcbkgbcnloaaPartLen12
import Derived.WalkKit
import Derived.ProofKit
import Derived.WalkLawsBesides
import Derived.BigQuiet
import Derived.Deep.RegionHeld3
import Derived.Below
import Derived.Lib.SmallJoins
namespace Go.Proofs.Ytcnlcbkgbcnloaa
open Go.RowKit Go.Joins RastMath BigMath BigTextMath HeadMath

set_option maxRecDepth 100000 in
set_option maxHeartbeats 1600000 in
theorem specHeadOk (x y d c : Int) (l : Bool) (w : World) :
    Calls Try.prog 12 #[.agg #[.int .i64 x, .int .i64 y, .int .i64 d, .int .i64 c, .bool l]] w fun e w' => e = .returned (.bool (decide (HeadR x y d c))) ∧ Below w.heap.size w w' := by
  have hs0 := specSide x
  have hs1 := specSide y
  have hd := specDepthOk c d
  have HB := hid_of (bstart w (.cells #[.int .i64 x, .int .i64 y, .int .i64 d, .int .i64 c, .bool l] 25))
  by_cases h0 : SideR x
  · rw [decide_eq_true h0] at hs0
    by_cases h1 : SideR y
    · rw [decide_eq_true h1] at hs1
      rw [show decide (HeadR x y d c) = decide (DepthR c d) from decide_eq_decide.mpr ⟨fun h => h.2.2, fun h => ⟨h0, h1, h⟩⟩]
      generalize decide (DepthR c d) = b at hd ⊢
      clear h0 h1
      go_enter Try.func12, Try.ntmps12
      go_wp2_with fail
      refine (hs0 _).mono ?_
      rintro e w1 ⟨rfl, rfl⟩
      go_wp2_with fail
      refine (hs1 _).mono ?_
      rintro e w1 ⟨rfl, rfl⟩
      go_wp2_with fail
      refine (hd _).mono ?_
      rintro e w1 ⟨rfl, rfl⟩
      go_wp2_with fail
      go_ret
      exact ⟨rfl, HB.out⟩
    · rw [decide_eq_false h1] at hs1
      rw [decide_eq_false (fun h : HeadR x y d c => h1 h.2.1)]
      clear h0 h1
      go_enter Try.func12, Try.ntmps12
      go_wp2_with fail
      refine (hs0 _).mono ?_
      rintro e w1 ⟨rfl, rfl⟩
      go_wp2_with fail
      refine (hs1 _).mono ?_
      rintro e w1 ⟨rfl, rfl⟩
      go_wp2_with fail
      go_ret
      exact ⟨rfl, HB.out⟩
  · rw [decide_eq_false h0] at hs0
    rw [decide_eq_false (fun h : HeadR x y d c => h0 h.1)]
    clear h0
    go_enter Try.func12, Try.ntmps12
    go_wp2_with fail
    refine (hs0 _).mono ?_
    rintro e w1 ⟨rfl, rfl⟩
    go_wp2_with fail
    go_ret
    exact ⟨rfl, HB.out⟩
/-- While the text is put together: the head lies in its box. -/
def HtS (w : World) (x y d c : Int) (l : Bool) (u : World) : Prop := u.heap[w.heap.size]? = some (.cells #[.int .i64 x, .int .i64 y, .int .i64 d, .int .i64 c, .bool l] 25 (0, 0)) ∧ Below w.heap.size w u
theorem HtS.called {w u u' : World} {x y d c : Int} {l : Bool} (h : HtS w x y d c l u) (hb : Below u.heap.size u u') : HtS w x y d c l u' := ⟨(hb.block _ (block_lt h.1)).trans h.1, bnext h.2 hb⟩
theorem specHeadText_no (x y d c : Int) (l : Bool) (w : World) (h : ¬ HeadR x y d c) :
    Calls Try.prog 24 #[.agg #[.int .i64 x, .int .i64 y, .int .i64 d, .int .i64 c, .bool l]] w fun e w' => e = headAns x y d c l ∧ Below w.heap.size w w' := by
  unfold headAns
  rw [if_neg h]
  have hk := specHeadOk x y d c l
  rw [decide_eq_false h] at hk
  have HB := hid_of (bstart w (.cells #[.int .i64 x, .int .i64 y, .int .i64 d, .int .i64 c, .bool l] 25))
  clear h
  go_enter Try.func24, Try.ntmps24
  go_wp2_with fail
  refine (hk _).mono ?_
  rintro e w1 ⟨rfl, hB1⟩
  have HB1 := hid_of (bnext HB.out hB1)
  clear hB1
  go_wp2_with fail
  exact bodyPost_ret (v := .tuple #[.string ⟨#[]⟩, .bool false]) (by simp [results, Try.results24, go_sem]) rfl ⟨rfl, HB1.out⟩
set_option maxRecDepth 100000 in
set_option maxHeartbeats 6400000 in
theorem specHeadText_one (x y d c : Int) (w : World) (h : HeadR x y d c) :
    Calls Try.prog 24 #[.agg #[.int .i64 x, .int .i64 y, .int .i64 d, .int .i64 c, .bool true]] w fun e w' => e = .returned (.tuple #[.string (headT x y d c true), .bool true]) ∧ Below w.heap.size w w' := by
  have hk := specHeadOk x y d c true
  rw [decide_eq_true h] at hk
  obtain ⟨⟨x0, x1⟩, ⟨y0, y1⟩, hdp⟩ := h
  have h5 := five_range (depth_five hdp)
  have hcr : 0 ≤ c ∧ c ≤ 6 := by
    rcases hdp with ⟨rfl, _⟩ | ⟨rfl, _⟩ | ⟨rfl | rfl | rfl, _⟩ <;> decide
  clear hdp
  have hbx := fun W => l01Big_any x 4 W (by omega) (by omega) (by omega)
  have hby := fun W => l01Big_any y 4 W (by omega) (by omega) (by omega)
  have k4 : ((4 : Nat) : Int) = 4 := rfl
  rw [k4] at hbx hby
  have HE : headT x y d c true = strOfNums (low x 4) ++ strOfNums (low y 4) ++ strOfNums [d, c, 0, 0, 1] := rfl
  have zA : (strOfNums (low x 4)).size = 4 := (strOfNums_size _).trans (low_length x 4)
  have zB : (strOfNums (low y 4)).size = 4 := (strOfNums_size _).trans (low_length y 4)
  have zT : (strOfNums [d, c, 0, 0, 1]).size = 5 := strOfNums_size _
  rw [HE]
  clear HE
  generalize strOfNums (low x 4) = tA at hbx zA ⊢
  generalize strOfNums (low y 4) = tB at hby zB ⊢
  generalize htT : strOfNums [d, c, 0, 0, 1] = tT at zT ⊢
  have w1 : IntKind.u8.wrap d = d := by show d % 256 = d; omega
  have w2 : IntKind.u8.wrap c = c := by show c % 256 = c; omega
  have w3 : d % 256 = d := by omega
  have w4 : c % 256 = c := by omega
  have wl : IntKind.u8.wrap 1 = 1 := rfl
  have HX : Hid ((w.alloc (.cells #[.int .i64 x, .int .i64 y, .int .i64 d, .int .i64 c, .bool true] 25)).heap[w.heap.size]? = some (.cells #[.int .i64 x, .int .i64 y, .int .i64 d, .int .i64 c, .bool true] 25 (0, 0))) := heap_alloc_new w _
  have HB := hid_of (bstart w (.cells #[.int .i64 x, .int .i64 y, .int .i64 d, .int .i64 c, .bool true] 25))
  go_enter Try.func24, Try.ntmps24
  go_wp2_with fail
  refine (hk _).mono ?_
  rintro e w1 ⟨rfl, hB1⟩
  have HS : Hid (HtS w x y d c true w1) := (show HtS w x y d c true _ from ⟨HX.out, HB.out⟩).called hB1
  obtain ⟨k0, k1, k2, k3, k4⟩ := head_cells HS.out.1
  have lx := block_lt HS.out.1
  clear hB1 HX HB
  go_wp2_with fail
  refine wp_region_held (S := HtS w x y d c true) (by kernel_rfl) ?_
  show wpAnyH _ _ _ _ _ _ _ _ w1.drew
  have HS0 : HtS w x y d c true w1.drew := ⟨HS.out.1, bdraws HS.out.2 1⟩
  clear HS k0 k1 k2 k3 k4 lx
  generalize w1.drew = u0 at HS0 ⊢
  refine wpAnyH_take (i := 0) (v := .pointer (some ⟨w.heap.size, 0, none⟩)) rfl (by kernel_rfl) (by kernel_rfl) (by kernel_rfl) (fun _ _ _ h => h) (Or.inl ⟨by rfl, ?_⟩) HS0 ?_
  · intro w' hS
    go_simp
  simp only [Act.put, List.getElem_toArray, List.getElem_cons_zero, List.setIfInBounds_toArray, List.set_cons_zero, List.set_cons_succ]
  refine wpAnyH_take (i := 1) (v := .int .i64 x) rfl (by kernel_rfl) (by kernel_rfl) (by kernel_rfl) (fun _ _ _ h => h) (Or.inl ⟨by rfl, ?_⟩) HS0 ?_
  · intro w' hS
    have s0 : w'.cell? ⟨w.heap.size, 0, none⟩ = some (.int .i64 x) := (cell_of_block hS.1 0).trans rfl
    go_simp
  simp only [Act.put, List.getElem_toArray, List.getElem_cons_zero, List.getElem_cons_succ, List.setIfInBounds_toArray, List.set_cons_zero, List.set_cons_succ]
  refine wpAnyH_take (i := 3) (v := .pointer (some ⟨w.heap.size, 1, none⟩)) rfl (by kernel_rfl) (by kernel_rfl) (by kernel_rfl) (fun _ _ _ h => h) (Or.inl ⟨by rfl, ?_⟩) HS0 ?_
  · intro w' hS
    go_simp
  simp only [Act.put, List.getElem_toArray, List.getElem_cons_zero, List.getElem_cons_succ, List.setIfInBounds_toArray, List.set_cons_zero, List.set_cons_succ]
  refine wpAnyH_take (i := 4) (v := .int .i64 y) rfl (by kernel_rfl) (by kernel_rfl) (by kernel_rfl) (fun _ _ _ h => h) (Or.inl ⟨by rfl, ?_⟩) HS0 ?_
  · intro w' hS
    have s0 : w'.cell? ⟨w.heap.size, 1, none⟩ = some (.int .i64 y) := (cell_of_block hS.1 1).trans rfl
    go_simp
  simp only [Act.put, List.getElem_toArray, List.getElem_cons_zero, List.getElem_cons_succ, List.setIfInBounds_toArray, List.set_cons_zero, List.set_cons_succ]
  refine wpAnyH_take (i := 7) (v := .pointer (some ⟨w.heap.size, 2, none⟩)) rfl (by kernel_rfl) (by kernel_rfl) (by kernel_rfl) (fun _ _ _ h => h) (Or.inl ⟨by rfl, ?_⟩) HS0 ?_
  · intro w' hS
    go_simp
  simp only [Act.put, List.getElem_toArray, List.getElem_cons_zero, List.getElem_cons_succ, List.setIfInBounds_toArray, List.set_cons_zero, List.set_cons_succ]
  refine wpAnyH_take (i := 8) (v := .int .i64 d) rfl (by kernel_rfl) (by kernel_rfl) (by kernel_rfl) (fun _ _ _ h => h) (Or.inl ⟨by rfl, ?_⟩) HS0 ?_
  · intro w' hS
    have s0 : w'.cell? ⟨w.heap.size, 2, none⟩ = some (.int .i64 d) := (cell_of_block hS.1 2).trans rfl
    go_simp
  simp only [Act.put, List.getElem_toArray, List.getElem_cons_zero, List.getElem_cons_succ, List.setIfInBounds_toArray, List.set_cons_zero, List.set_cons_succ]
  refine wpAnyH_take (i := 9) (v := .int .u8 d) rfl (by kernel_rfl) (by kernel_rfl) (by kernel_rfl) (fun _ _ _ h => h) (Or.inl ⟨by rfl, ?_⟩) HS0 ?_
  · intro w' hS
    go_simp
  simp only [Act.put, List.getElem_toArray, List.getElem_cons_zero, List.getElem_cons_succ, List.setIfInBounds_toArray, List.set_cons_zero, List.set_cons_succ]
  refine wpAnyH_take (i := 10) (v := .pointer (some ⟨w.heap.size, 3, none⟩)) rfl (by kernel_rfl) (by kernel_rfl) (by kernel_rfl) (fun _ _ _ h => h) (Or.inl ⟨by rfl, ?_⟩) HS0 ?_
  · intro w' hS
    go_simp
  simp only [Act.put, List.getElem_toArray, List.getElem_cons_zero, List.getElem_cons_succ, List.setIfInBounds_toArray, List.set_cons_zero, List.set_cons_succ]
  refine wpAnyH_take (i := 11) (v := .int .i64 c) rfl (by kernel_rfl) (by kernel_rfl) (by kernel_rfl) (fun _ _ _ h => h) (Or.inl ⟨by rfl, ?_⟩) HS0 ?_
  · intro w' hS
    have s0 : w'.cell? ⟨w.heap.size, 3, none⟩ = some (.int .i64 c) := (cell_of_block hS.1 3).trans rfl
    go_simp
  simp only [Act.put, List.getElem_toArray, List.getElem_cons_zero, List.getElem_cons_succ, List.setIfInBounds_toArray, List.set_cons_zero, List.set_cons_succ]
  refine wpAnyH_take (i := 12) (v := .int .u8 c) rfl (by kernel_rfl) (by kernel_rfl) (by kernel_rfl) (fun _ _ _ h => h) (Or.inl ⟨by rfl, ?_⟩) HS0 ?_
  · intro w' hS
    go_simp
  simp only [Act.put, List.getElem_toArray, List.getElem_cons_zero, List.getElem_cons_succ, List.setIfInBounds_toArray, List.set_cons_zero, List.set_cons_succ]
  refine wpAnyH_take (i := 13) (v := .int .i64 1) rfl (by kernel_rfl) (by kernel_rfl) (by kernel_rfl) (fun _ _ _ h => h) (Or.inl ⟨by rfl, ?_⟩) HS0 ?_
  · intro w' hS
    go_simp
  simp only [Act.put, List.getElem_toArray, List.getElem_cons_zero, List.getElem_cons_succ, List.setIfInBounds_toArray, List.set_cons_zero, List.set_cons_succ]
  refine wpAnyH_take (i := 14) (v := .int .u8 1) rfl (by kernel_rfl) (by kernel_rfl) (by kernel_rfl) (fun _ _ _ h => h) (Or.inl ⟨by rfl, ?_⟩) HS0 ?_
  · intro w' hS
    go_simp
  simp only [Act.put, List.getElem_toArray, List.getElem_cons_zero, List.getElem_cons_succ, List.setIfInBounds_toArray, List.set_cons_zero, List.set_cons_succ]
  refine wpAnyH_ready (rs := [2, 15]) (by kernel_rfl) (by simp) ?_
  refine AllReadyH.cons rfl (fun K hK => ?_) (AllReadyH.cons rfl (fun K hK => ?_) AllReadyH.nil)
  · refine if_wanted (wanted_none rfl) ?_
    simp only [List.getElem_toArray, List.getElem_cons_zero, List.getElem_cons_succ]
    go_simp
    refine (hbx _).mono ?_
    rintro e u1 ⟨rfl, hb⟩
    have HT1 := HS0.called hb
    refine hK.out _ _ HT1 (fun HS1 => ?_)
    clear hK K hb HT1
    refine wpAnyH_ready (rs := [5, 15]) (by kernel_rfl) (by simp) ?_
    refine AllReadyH.cons rfl (fun K hK => ?_) (AllReadyH.cons rfl (fun K hK => ?_) AllReadyH.nil)
    · refine if_wanted (wanted_none rfl) ?_
      simp only [List.getElem_toArray, List.getElem_cons_zero, List.getElem_cons_succ]
      go_simp
      refine (hby _).mono ?_
      rintro e u2 ⟨rfl, hb⟩
      have HT2 := HS1.called hb
      refine hK.out _ _ HT2 (fun HS2 => ?_)
      clear hK K hb HT2
      refine wpAnyH_take (i := 6) (v := .string (tA ++ tB)) rfl (by kernel_rfl) (by kernel_rfl) (by kernel_rfl) (fun _ _ _ h => h) (Or.inl ⟨by rfl, ?_⟩) HS2 ?_
      · intro w' hS
        go_simp
      simp only [Act.put, List.getElem_toArray, List.getElem_cons_zero, List.getElem_cons_succ, List.setIfInBounds_toArray, List.set_cons_zero, List.set_cons_succ]
      refine wpAnyH_ready (rs := [15]) (by kernel_rfl) (by simp) ?_
      refine AllReadyH.cons rfl (fun K hK => ?_) AllReadyH.nil
      · refine if_wanted (wanted_none rfl) ?_
        simp only [List.getElem_toArray, List.getElem_cons_zero, List.getElem_cons_succ]
        go_simp
        refine hK.out _ _ (HS2.called (bstart _ _)) (fun HS3 => ?_)
        clear hK K
        have g3 := heap_alloc_new u2 (.cells #[.int .u8 d, .int .u8 c, .int .u8 0, .int .u8 0, .int .u8 1] 5)
        generalize hu3 : u2.alloc (.cells #[.int .u8 d, .int .u8 c, .int .u8 0, .int .u8 0, .int .u8 1] 5) = u3 at HS3 g3 ⊢
        clear hu3
        generalize u2.heap.size = G at g3 ⊢
        refine wpAnyH_ready (rs := [16]) (by kernel_rfl) (by simp) ?_
        refine AllReadyH.cons rfl (fun K hK => ?_) AllReadyH.nil
        · refine if_wanted (wanted_none rfl) ?_
          simp only [List.getElem_toArray, List.getElem_cons_zero, List.getElem_cons_succ]
          have kc := conv5 g3
          rw [htT] at kc
          go_simp
          refine hK.out _ _ HS3 (fun HS4 => ?_)
          clear hK K kc g3
          have HU4 := HS4
          obtain ⟨u4, hu⟩ : ∃ u4, u4 = u3 := ⟨_, rfl⟩
          rw [← hu] at HS4 ⊢
          clear hu HU4
          refine wpAnyH_take (i := 17) (v := .string (tA ++ tB ++ tT)) rfl (by kernel_rfl) (by kernel_rfl) (by kernel_rfl) (fun _ _ _ h => h) (Or.inl ⟨by rfl, ?_⟩) HS4 ?_
          · intro w' hS
            go_simp
          simp only [Act.put, List.getElem_toArray, List.getElem_cons_zero, List.getElem_cons_succ, List.setIfInBounds_toArray, List.set_cons_zero, List.set_cons_succ]
          refine wpAnyH_take (i := 18) (v := .string (tA ++ tB ++ tT)) rfl (by kernel_rfl) (by kernel_rfl) (by kernel_rfl) (fun _ _ _ h => h) (Or.inl ⟨by rfl, ?_⟩) HS4 ?_
          · intro w' hS
            go_simp
          simp only [Act.put, List.getElem_toArray, List.getElem_cons_zero, List.getElem_cons_succ, List.setIfInBounds_toArray, List.set_cons_zero, List.set_cons_succ]
          refine wpAnyH_take (i := 19) (v := .bool true) rfl (by kernel_rfl) (by kernel_rfl) (by kernel_rfl) (fun _ _ _ h => h) (Or.inl ⟨by rfl, ?_⟩) HS4 ?_
          · intro w' hS
            go_simp
          simp only [Act.put, List.getElem_toArray, List.getElem_cons_zero, List.getElem_cons_succ, List.setIfInBounds_toArray, List.set_cons_zero, List.set_cons_succ]
          refine wpAnyH_done (by kernel_rfl) ?_ _
          have HE := hid_of HS4.2
          go_wp2_with fail
          exact bodyPost_ret (v := .tuple #[.string (tA ++ tB ++ tT), .bool true]) (by simp [results, Try.results24, go_sem]) rfl ⟨rfl, HE.out⟩
    · refine if_wanted (wanted_none rfl) ?_
      simp only [List.getElem_toArray, List.getElem_cons_zero, List.getElem_cons_succ]
      go_simp
      refine hK.out _ _ (HS1.called (bstart _ _)) (fun HS2 => ?_)
      clear hK K
      have g2 := heap_alloc_new u1 (.cells #[.int .u8 d, .int .u8 c, .int .u8 0, .int .u8 0, .int .u8 1] 5)
      generalize hu2 : u1.alloc (.cells #[.int .u8 d, .int .u8 c, .int .u8 0, .int .u8 0, .int .u8 1] 5) = u2 at HS2 g2 ⊢
      clear hu2
      generalize u1.heap.size = G at g2 ⊢
      refine wpAnyH_ready (rs := [5, 16]) (by kernel_rfl) (by simp) ?_
      refine AllReadyH.cons rfl (fun K hK => ?_) (AllReadyH.cons rfl (fun K hK => ?_) AllReadyH.nil)
      · refine if_wanted (wanted_none rfl) ?_
        simp only [List.getElem_toArray, List.getElem_cons_zero, List.getElem_cons_succ]
        go_simp
        refine (hby _).mono ?_
        rintro e u3 ⟨rfl, hb⟩
        have HT3 := HS2.called hb
        have g3 := (hb.block _ (block_lt g2)).trans g2
        refine hK.out _ _ HT3 (fun HS3 => ?_)
        clear hK K hb HT3
        refine wpAnyH_take (i := 6) (v := .string (tA ++ tB)) rfl (by kernel_rfl) (by kernel_rfl) (by kernel_rfl) (fun _ _ _ h => h) (Or.inl ⟨by rfl, ?_⟩) HS3 ?_
        · intro w' hS
          go_simp
        simp only [Act.put, List.getElem_toArray, List.getElem_cons_zero, List.getElem_cons_succ, List.setIfInBounds_toArray, List.set_cons_zero, List.set_cons_succ]
        refine wpAnyH_ready (rs := [16]) (by kernel_rfl) (by simp) ?_
        refine AllReadyH.cons rfl (fun K hK => ?_) AllReadyH.nil
        · refine if_wanted (wanted_none rfl) ?_
          simp only [List.getElem_toArray, List.getElem_cons_zero, List.getElem_cons_succ]
          have kc := conv5 g3
          rw [htT] at kc
          go_simp
          refine hK.out _ _ HS3 (fun HS4 => ?_)
          clear hK K kc g3
          have HU4 := HS4
          obtain ⟨u4, hu⟩ : ∃ u4, u4 = u3 := ⟨_, rfl⟩
          rw [← hu] at HS4 ⊢
          clear hu HU4
          refine wpAnyH_take (i := 17) (v := .string (tA ++ tB ++ tT)) rfl (by kernel_rfl) (by kernel_rfl) (by kernel_rfl) (fun _ _ _ h => h) (Or.inl ⟨by rfl, ?_⟩) HS4 ?_
          · intro w' hS
            go_simp
          simp only [Act.put, List.getElem_toArray, List.getElem_cons_zero, List.getElem_cons_succ, List.setIfInBounds_toArray, List.set_cons_zero, List.set_cons_succ]
          refine wpAnyH_take (i := 18) (v := .string (tA ++ tB ++ tT)) rfl (by kernel_rfl) (by kernel_rfl) (by kernel_rfl) (fun _ _ _ h => h) (Or.inl ⟨by rfl, ?_⟩) HS4 ?_
          · intro w' hS
            go_simp
          simp only [Act.put, List.getElem_toArray, List.getElem_cons_zero, List.getElem_cons_succ, List.setIfInBounds_toArray, List.set_cons_zero, List.set_cons_succ]
          refine wpAnyH_take (i := 19) (v := .bool true) rfl (by kernel_rfl) (by kernel_rfl) (by kernel_rfl) (fun _ _ _ h => h) (Or.inl ⟨by rfl, ?_⟩) HS4 ?_
          · intro w' hS
            go_simp
          simp only [Act.put, List.getElem_toArray, List.getElem_cons_zero, List.getElem_cons_succ, List.setIfInBounds_toArray, List.set_cons_zero, List.set_cons_succ]
          refine wpAnyH_done (by kernel_rfl) ?_ _
          have HE := hid_of HS4.2
          go_wp2_with fail
          exact bodyPost_ret (v := .tuple #[.string (tA ++ tB ++ tT), .bool true]) (by simp [results, Try.results24, go_sem]) rfl ⟨rfl, HE.out⟩
      · refine if_wanted (wanted_none rfl) ?_
        simp only [List.getElem_toArray, List.getElem_cons_zero, List.getElem_cons_succ]
        have kc := conv5 g2
        rw [htT] at kc
        go_simp
        refine hK.out _ _ HS2 (fun HS3 => ?_)
        clear hK K kc g2
        have HU3 := HS3
        obtain ⟨u3, hu⟩ : ∃ u3, u3 = u2 := ⟨_, rfl⟩
        rw [← hu] at HS3 ⊢
        clear hu HU3
        refine wpAnyH_ready (rs := [5]) (by kernel_rfl) (by simp) ?_
        refine AllReadyH.cons rfl (fun K hK => ?_) AllReadyH.nil
        · refine if_wanted (wanted_none rfl) ?_
          simp only [List.getElem_toArray, List.getElem_cons_zero, List.getElem_cons_succ]
          go_simp
          refine (hby _).mono ?_
          rintro e u4 ⟨rfl, hb⟩
          have HT4 := HS3.called hb
          refine hK.out _ _ HT4 (fun HS4 => ?_)
          clear hK K hb HT4
          refine wpAnyH_take (i := 6) (v := .string (tA ++ tB)) rfl (by kernel_rfl) (by kernel_rfl) (by kernel_rfl) (fun _ _ _ h => h) (Or.inl ⟨by rfl, ?_⟩) HS4 ?_
          · intro w' hS
            go_simp
          simp only [Act.put, List.getElem_toArray, List.getElem_cons_zero, List.getElem_cons_succ, List.setIfInBounds_toArray, List.set_cons_zero, List.set_cons_succ]
          refine wpAnyH_take (i := 17) (v := .string (tA ++ tB ++ tT)) rfl (by kernel_rfl) (by kernel_rfl) (by kernel_rfl) (fun _ _ _ h => h) (Or.inl ⟨by rfl, ?_⟩) HS4 ?_
          · intro w' hS
            go_simp
          simp only [Act.put, List.getElem_toArray, List.getElem_cons_zero, List.getElem_cons_succ, List.setIfInBounds_toArray, List.set_cons_zero, List.set_cons_succ]
          refine wpAnyH_take (i := 18) (v := .string (tA ++ tB ++ tT)) rfl (by kernel_rfl) (by kernel_rfl) (by kernel_rfl) (fun _ _ _ h => h) (Or.inl ⟨by rfl, ?_⟩) HS4 ?_
          · intro w' hS
            go_simp
          simp only [Act.put, List.getElem_toArray, List.getElem_cons_zero, List.getElem_cons_succ, List.setIfInBounds_toArray, List.set_cons_zero, List.set_cons_succ]
          refine wpAnyH_take (i := 19) (v := .bool true) rfl (by kernel_rfl) (by kernel_rfl) (by kernel_rfl) (fun _ _ _ h => h) (Or.inl ⟨by rfl, ?_⟩) HS4 ?_
          · intro w' hS
            go_simp
          simp only [Act.put, List.getElem_toArray, List.getElem_cons_zero, List.getElem_cons_succ, List.setIfInBounds_toArray, List.set_cons_zero, List.set_cons_succ]
          refine wpAnyH_done (by kernel_rfl) ?_ _
          have HE := hid_of HS4.2
          go_wp2_with fail
          exact bodyPost_ret (v := .tuple #[.string (tA ++ tB ++ tT), .bool true]) (by simp [results, Try.results24, go_sem]) rfl ⟨rfl, HE.out⟩
  · refine if_wanted (wanted_none rfl) ?_
    simp only [List.getElem_toArray, List.getElem_cons_zero, List.getElem_cons_succ]
    go_simp
    refine hK.out _ _ (HS0.called (bstart _ _)) (fun HS1 => ?_)
    clear hK K
    have g1 := heap_alloc_new u0 (.cells #[.int .u8 d, .int .u8 c, .int .u8 0, .int .u8 0, .int .u8 1] 5)
    generalize hu1 : u0.alloc (.cells #[.int .u8 d, .int .u8 c, .int .u8 0, .int .u8 0, .int .u8 1] 5) = u1 at HS1 g1 ⊢
    clear hu1
    generalize u0.heap.size = G at g1 ⊢
    refine wpAnyH_ready (rs := [2, 16]) (by kernel_rfl) (by simp) ?_
    refine AllReadyH.cons rfl (fun K hK => ?_) (AllReadyH.cons rfl (fun K hK => ?_) AllReadyH.nil)
    · refine if_wanted (wanted_none rfl) ?_
      simp only [List.getElem_toArray, List.getElem_cons_zero, List.getElem_cons_succ]
      go_simp
      refine (hbx _).mono ?_
      rintro e u2 ⟨rfl, hb⟩
      have HT2 := HS1.called hb
      have g2 := (hb.block _ (block_lt g1)).trans g1
      refine hK.out _ _ HT2 (fun HS2 => ?_)
      clear hK K hb HT2
      refine wpAnyH_ready (rs := [5, 16]) (by kernel_rfl) (by simp) ?_
      refine AllReadyH.cons rfl (fun K hK => ?_) (AllReadyH.cons rfl (fun K hK => ?_) AllReadyH.nil)
      · refine if_wanted (wanted_none rfl) ?_
        simp only [List.getElem_toArray, List.getElem_cons_zero, List.getElem_cons_succ]
        go_simp
        refine (hby _).mono ?_
        rintro e u3 ⟨rfl, hb⟩
        have HT3 := HS2.called hb
        have g3 := (hb.block _ (block_lt g2)).trans g2
        refine hK.out _ _ HT3 (fun HS3 => ?_)
        clear hK K hb HT3
        refine wpAnyH_take (i := 6) (v := .string (tA ++ tB)) rfl (by kernel_rfl) (by kernel_rfl) (by kernel_rfl) (fun _ _ _ h => h) (Or.inl ⟨by rfl, ?_⟩) HS3 ?_
        · intro w' hS
          go_simp
        simp only [Act.put, List.getElem_toArray, List.getElem_cons_zero, List.getElem_cons_succ, List.setIfInBounds_toArray, List.set_cons_zero, List.set_cons_succ]
        refine wpAnyH_ready (rs := [16]) (by kernel_rfl) (by simp) ?_
        refine AllReadyH.cons rfl (fun K hK => ?_) AllReadyH.nil
        · refine if_wanted (wanted_none rfl) ?_
          simp only [List.getElem_toArray, List.getElem_cons_zero, List.getElem_cons_succ]
          have kc := conv5 g3
          rw [htT] at kc
          go_simp
          refine hK.out _ _ HS3 (fun HS4 => ?_)
          clear hK K kc g3
          have HU4 := HS4
          obtain ⟨u4, hu⟩ : ∃ u4, u4 = u3 := ⟨_, rfl⟩
          rw [← hu] at HS4 ⊢
          clear hu HU4
          refine wpAnyH_take (i := 17) (v := .string (tA ++ tB ++ tT)) rfl (by kernel_rfl) (by kernel_rfl) (by kernel_rfl) (fun _ _ _ h => h) (Or.inl ⟨by rfl, ?_⟩) HS4 ?_
          · intro w' hS
            go_simp
          simp only [Act.put, List.getElem_toArray, List.getElem_cons_zero, List.getElem_cons_succ, List.setIfInBounds_toArray, List.set_cons_zero, List.set_cons_succ]
          refine wpAnyH_take (i := 18) (v := .string (tA ++ tB ++ tT)) rfl (by kernel_rfl) (by kernel_rfl) (by kernel_rfl) (fun _ _ _ h => h) (Or.inl ⟨by rfl, ?_⟩) HS4 ?_
          · intro w' hS
            go_simp
          simp only [Act.put, List.getElem_toArray, List.getElem_cons_zero, List.getElem_cons_succ, List.setIfInBounds_toArray, List.set_cons_zero, List.set_cons_succ]
          refine wpAnyH_take (i := 19) (v := .bool true) rfl (by kernel_rfl) (by kernel_rfl) (by kernel_rfl) (fun _ _ _ h => h) (Or.inl ⟨by rfl, ?_⟩) HS4 ?_
          · intro w' hS
            go_simp
          simp only [Act.put, List.getElem_toArray, List.getElem_cons_zero, List.getElem_cons_succ, List.setIfInBounds_toArray, List.set_cons_zero, List.set_cons_succ]
          refine wpAnyH_done (by kernel_rfl) ?_ _
          have HE := hid_of HS4.2
          go_wp2_with fail
          exact bodyPost_ret (v := .tuple #[.string (tA ++ tB ++ tT), .bool true]) (by simp [results, Try.results24, go_sem]) rfl ⟨rfl, HE.out⟩
      · refine if_wanted (wanted_none rfl) ?_
        simp only [List.getElem_toArray, List.getElem_cons_zero, List.getElem_cons_succ]
        have kc := conv5 g2
        rw [htT] at kc
        go_simp
        refine hK.out _ _ HS2 (fun HS3 => ?_)
        clear hK K kc g2
        have HU3 := HS3
        obtain ⟨u3, hu⟩ : ∃ u3, u3 = u2 := ⟨_, rfl⟩
        rw [← hu] at HS3 ⊢
        clear hu HU3
        refine wpAnyH_ready (rs := [5]) (by kernel_rfl) (by simp) ?_
        refine AllReadyH.cons rfl (fun K hK => ?_) AllReadyH.nil
        · refine if_wanted (wanted_none rfl) ?_
          simp only [List.getElem_toArray, List.getElem_cons_zero, List.getElem_cons_succ]
          go_simp
          refine (hby _).mono ?_
          rintro e u4 ⟨rfl, hb⟩
          have HT4 := HS3.called hb
          refine hK.out _ _ HT4 (fun HS4 => ?_)
          clear hK K hb HT4
          refine wpAnyH_take (i := 6) (v := .string (tA ++ tB)) rfl (by kernel_rfl) (by kernel_rfl) (by kernel_rfl) (fun _ _ _ h => h) (Or.inl ⟨by rfl, ?_⟩) HS4 ?_
          · intro w' hS
            go_simp
          simp only [Act.put, List.getElem_toArray, List.getElem_cons_zero, List.getElem_cons_succ, List.setIfInBounds_toArray, List.set_cons_zero, List.set_cons_succ]
          refine wpAnyH_take (i := 17) (v := .string (tA ++ tB ++ tT)) rfl (by kernel_rfl) (by kernel_rfl) (by kernel_rfl) (fun _ _ _ h => h) (Or.inl ⟨by rfl, ?_⟩) HS4 ?_
          · intro w' hS
            go_simp
          simp only [Act.put, List.getElem_toArray, List.getElem_cons_zero, List.getElem_cons_succ, List.setIfInBounds_toArray, List.set_cons_zero, List.set_cons_succ]
          refine wpAnyH_take (i := 18) (v := .string (tA ++ tB ++ tT)) rfl (by kernel_rfl) (by kernel_rfl) (by kernel_rfl) (fun _ _ _ h => h) (Or.inl ⟨by rfl, ?_⟩) HS4 ?_
          · intro w' hS
            go_simp
          simp only [Act.put, List.getElem_toArray, List.getElem_cons_zero, List.getElem_cons_succ, List.setIfInBounds_toArray, List.set_cons_zero, List.set_cons_succ]
          refine wpAnyH_take (i := 19) (v := .bool true) rfl (by kernel_rfl) (by kernel_rfl) (by kernel_rfl) (fun _ _ _ h => h) (Or.inl ⟨by rfl, ?_⟩) HS4 ?_
          · intro w' hS
            go_simp
          simp only [Act.put, List.getElem_toArray, List.getElem_cons_zero, List.getElem_cons_succ, List.setIfInBounds_toArray, List.set_cons_zero, List.set_cons_succ]
          refine wpAnyH_done (by kernel_rfl) ?_ _
          have HE := hid_of HS4.2
          go_wp2_with fail
          exact bodyPost_ret (v := .tuple #[.string (tA ++ tB ++ tT), .bool true]) (by simp [results, Try.results24, go_sem]) rfl ⟨rfl, HE.out⟩
    · refine if_wanted (wanted_none rfl) ?_
      simp only [List.getElem_toArray, List.getElem_cons_zero, List.getElem_cons_succ]
      have kc := conv5 g1
      rw [htT] at kc
      go_simp
      refine hK.out _ _ HS1 (fun HS2 => ?_)
      clear hK K kc g1
      have HU2 := HS2
      obtain ⟨u2, hu⟩ : ∃ u2, u2 = u1 := ⟨_, rfl⟩
      rw [← hu] at HS2 ⊢
      clear hu HU2
      refine wpAnyH_ready (rs := [2]) (by kernel_rfl) (by simp) ?_
      refine AllReadyH.cons rfl (fun K hK => ?_) AllReadyH.nil
      · refine if_wanted (wanted_none rfl) ?_
        simp only [List.getElem_toArray, List.getElem_cons_zero, List.getElem_cons_succ]
        go_simp
        refine (hbx _).mono ?_
        rintro e u3 ⟨rfl, hb⟩
        have HT3 := HS2.called hb
        refine hK.out _ _ HT3 (fun HS3 => ?_)
        clear hK K hb HT3
        refine wpAnyH_ready (rs := [5]) (by kernel_rfl) (by simp) ?_
        refine AllReadyH.cons rfl (fun K hK => ?_) AllReadyH.nil
        · refine if_wanted (wanted_none rfl) ?_
          simp only [List.getElem_toArray, List.getElem_cons_zero, List.getElem_cons_succ]
          go_simp
          refine (hby _).mono ?_
          rintro e u4 ⟨rfl, hb⟩
          have HT4 := HS3.called hb
          refine hK.out _ _ HT4 (fun HS4 => ?_)
          clear hK K hb HT4
          refine wpAnyH_take (i := 6) (v := .string (tA ++ tB)) rfl (by kernel_rfl) (by kernel_rfl) (by kernel_rfl) (fun _ _ _ h => h) (Or.inl ⟨by rfl, ?_⟩) HS4 ?_
          · intro w' hS
            go_simp
          simp only [Act.put, List.getElem_toArray, List.getElem_cons_zero, List.getElem_cons_succ, List.setIfInBounds_toArray, List.set_cons_zero, List.set_cons_succ]
          refine wpAnyH_take (i := 17) (v := .string (tA ++ tB ++ tT)) rfl (by kernel_rfl) (by kernel_rfl) (by kernel_rfl) (fun _ _ _ h => h) (Or.inl ⟨by rfl, ?_⟩) HS4 ?_
          · intro w' hS
            go_simp
          simp only [Act.put, List.getElem_toArray, List.getElem_cons_zero, List.getElem_cons_succ, List.setIfInBounds_toArray, List.set_cons_zero, List.set_cons_succ]
          refine wpAnyH_take (i := 18) (v := .string (tA ++ tB ++ tT)) rfl (by kernel_rfl) (by kernel_rfl) (by kernel_rfl) (fun _ _ _ h => h) (Or.inl ⟨by rfl, ?_⟩) HS4 ?_
          · intro w' hS
            go_simp
          simp only [Act.put, List.getElem_toArray, List.getElem_cons_zero, List.getElem_cons_succ, List.setIfInBounds_toArray, List.set_cons_zero, List.set_cons_succ]
          refine wpAnyH_take (i := 19) (v := .bool true) rfl (by kernel_rfl) (by kernel_rfl) (by kernel_rfl) (fun _ _ _ h => h) (Or.inl ⟨by rfl, ?_⟩) HS4 ?_
          · intro w' hS
            go_simp
          simp only [Act.put, List.getElem_toArray, List.getElem_cons_zero, List.getElem_cons_succ, List.setIfInBounds_toArray, List.set_cons_zero, List.set_cons_succ]
          refine wpAnyH_done (by kernel_rfl) ?_ _
          have HE := hid_of HS4.2
          go_wp2_with fail
          exact bodyPost_ret (v := .tuple #[.string (tA ++ tB ++ tT), .bool true]) (by simp [results, Try.results24, go_sem]) rfl ⟨rfl, HE.out⟩
set_option maxRecDepth 100000 in
set_option maxHeartbeats 6400000 in
theorem specHeadText_none (x y d c : Int) (w : World) (h : HeadR x y d c) :
    Calls Try.prog 24 #[.agg #[.int .i64 x, .int .i64 y, .int .i64 d, .int .i64 c, .bool false]] w fun e w' => e = .returned (.tuple #[.string (headT x y d c false), .bool true]) ∧ Below w.heap.size w w' := by
  have hk := specHeadOk x y d c false
  rw [decide_eq_true h] at hk
  obtain ⟨⟨x0, x1⟩, ⟨y0, y1⟩, hdp⟩ := h
  have h5 := five_range (depth_five hdp)
  have hcr : 0 ≤ c ∧ c ≤ 6 := by
    rcases hdp with ⟨rfl, _⟩ | ⟨rfl, _⟩ | ⟨rfl | rfl | rfl, _⟩ <;> decide
  clear hdp
  have hbx := fun W => l01Big_any x 4 W (by omega) (by omega) (by omega)
  have hby := fun W => l01Big_any y 4 W (by omega) (by omega) (by omega)
  have k4 : ((4 : Nat) : Int) = 4 := rfl
  rw [k4] at hbx hby
  have HE : headT x y d c false = strOfNums (low x 4) ++ strOfNums (low y 4) ++ strOfNums [d, c, 0, 0, 0] := rfl
  have zA : (strOfNums (low x 4)).size = 4 := (strOfNums_size _).trans (low_length x 4)
  have zB : (strOfNums (low y 4)).size = 4 := (strOfNums_size _).trans (low_length y 4)
  have zT : (strOfNums [d, c, 0, 0, 0]).size = 5 := strOfNums_size _
  rw [HE]
  clear HE
  generalize strOfNums (low x 4) = tA at hbx zA ⊢
  generalize strOfNums (low y 4) = tB at hby zB ⊢
  generalize htT : strOfNums [d, c, 0, 0, 0] = tT at zT ⊢
  have w1 : IntKind.u8.wrap d = d := by show d % 256 = d; omega
  have w2 : IntKind.u8.wrap c = c := by show c % 256 = c; omega
  have w3 : d % 256 = d := by omega
  have w4 : c % 256 = c := by omega
  have wl : IntKind.u8.wrap 0 = 0 := rfl
  have HX : Hid ((w.alloc (.cells #[.int .i64 x, .int .i64 y, .int .i64 d, .int .i64 c, .bool false] 25)).heap[w.heap.size]? = some (.cells #[.int .i64 x, .int .i64 y, .int .i64 d, .int .i64 c, .bool false] 25 (0, 0))) := heap_alloc_new w _
  have HB := hid_of (bstart w (.cells #[.int .i64 x, .int .i64 y, .int .i64 d, .int .i64 c, .bool false] 25))
  go_enter Try.func24, Try.ntmps24
  go_wp2_with fail
  refine (hk _).mono ?_
  rintro e w1 ⟨rfl, hB1⟩
  have HS : Hid (HtS w x y d c false w1) := (show HtS w x y d c false _ from ⟨HX.out, HB.out⟩).called hB1
  obtain ⟨k0, k1, k2, k3, k4⟩ := head_cells HS.out.1
  have lx := block_lt HS.out.1
  clear hB1 HX HB
  go_wp2_with fail
  refine wp_region_held (S := HtS w x y d c false) (by kernel_rfl) ?_
  show wpAnyH _ _ _ _ _ _ _ _ w1.drew
  have HS0 : HtS w x y d c false w1.drew := ⟨HS.out.1, bdraws HS.out.2 1⟩
  clear HS k0 k1 k2 k3 k4 lx
  generalize w1.drew = u0 at HS0 ⊢
  refine wpAnyH_take (i := 0) (v := .pointer (some ⟨w.heap.size, 0, none⟩)) rfl (by kernel_rfl) (by kernel_rfl) (by kernel_rfl) (fun _ _ _ h => h) (Or.inl ⟨by rfl, ?_⟩) HS0 ?_
  · intro w' hS
    go_simp
  simp only [Act.put, List.getElem_toArray, List.getElem_cons_zero, List.setIfInBounds_toArray, List.set_cons_zero, List.set_cons_succ]
  refine wpAnyH_take (i := 1) (v := .int .i64 x) rfl (by kernel_rfl) (by kernel_rfl) (by kernel_rfl) (fun _ _ _ h => h) (Or.inl ⟨by rfl, ?_⟩) HS0 ?_
  · intro w' hS
    have s0 : w'.cell? ⟨w.heap.size, 0, none⟩ = some (.int .i64 x) := (cell_of_block hS.1 0).trans rfl
    go_simp
  simp only [Act.put, List.getElem_toArray, List.getElem_cons_zero, List.getElem_cons_succ, List.setIfInBounds_toArray, List.set_cons_zero, List.set_cons_succ]
  refine wpAnyH_take (i := 3) (v := .pointer (some ⟨w.heap.size, 1, none⟩)) rfl (by kernel_rfl) (by kernel_rfl) (by kernel_rfl) (fun _ _ _ h => h) (Or.inl ⟨by rfl, ?_⟩) HS0 ?_
  · intro w' hS
    go_simp
  simp only [Act.put, List.getElem_toArray, List.getElem_cons_zero, List.getElem_cons_succ, List.setIfInBounds_toArray, List.set_cons_zero, List.set_cons_succ]
  refine wpAnyH_take (i := 4) (v := .int .i64 y) rfl (by kernel_rfl) (by kernel_rfl) (by kernel_rfl) (fun _ _ _ h => h) (Or.inl ⟨by rfl, ?_⟩) HS0 ?_
  · intro w' hS
    have s0 : w'.cell? ⟨w.heap.size, 1, none⟩ = some (.int .i64 y) := (cell_of_block hS.1 1).trans rfl
    go_simp
  simp only [Act.put, List.getElem_toArray, List.getElem_cons_zero, List.getElem_cons_succ, List.setIfInBounds_toArray, List.set_cons_zero, List.set_cons_succ]
  refine wpAnyH_take (i := 7) (v := .pointer (some ⟨w.heap.size, 2, none⟩)) rfl (by kernel_rfl) (by kernel_rfl) (by kernel_rfl) (fun _ _ _ h => h) (Or.inl ⟨by rfl, ?_⟩) HS0 ?_
  · intro w' hS
    go_simp
  simp only [Act.put, List.getElem_toArray, List.getElem_cons_zero, List.getElem_cons_succ, List.setIfInBounds_toArray, List.set_cons_zero, List.set_cons_succ]
  refine wpAnyH_take (i := 8) (v := .int .i64 d) rfl (by kernel_rfl) (by kernel_rfl) (by kernel_rfl) (fun _ _ _ h => h) (Or.inl ⟨by rfl, ?_⟩) HS0 ?_
  · intro w' hS
    have s0 : w'.cell? ⟨w.heap.size, 2, none⟩ = some (.int .i64 d) := (cell_of_block hS.1 2).trans rfl
    go_simp
  simp only [Act.put, List.getElem_toArray, List.getElem_cons_zero, List.getElem_cons_succ, List.setIfInBounds_toArray, List.set_cons_zero, List.set_cons_succ]
  refine wpAnyH_take (i := 9) (v := .int .u8 d) rfl (by kernel_rfl) (by kernel_rfl) (by kernel_rfl) (fun _ _ _ h => h) (Or.inl ⟨by rfl, ?_⟩) HS0 ?_
  · intro w' hS
    go_simp
  simp only [Act.put, List.getElem_toArray, List.getElem_cons_zero, List.getElem_cons_succ, List.setIfInBounds_toArray, List.set_cons_zero, List.set_cons_succ]
  refine wpAnyH_take (i := 10) (v := .pointer (some ⟨w.heap.size, 3, none⟩)) rfl (by kernel_rfl) (by kernel_rfl) (by kernel_rfl) (fun _ _ _ h => h) (Or.inl ⟨by rfl, ?_⟩) HS0 ?_
  · intro w' hS
    go_simp
  simp only [Act.put, List.getElem_toArray, List.getElem_cons_zero, List.getElem_cons_succ, List.setIfInBounds_toArray, List.set_cons_zero, List.set_cons_succ]
  refine wpAnyH_take (i := 11) (v := .int .i64 c) rfl (by kernel_rfl) (by kernel_rfl) (by kernel_rfl) (fun _ _ _ h => h) (Or.inl ⟨by rfl, ?_⟩) HS0 ?_
  · intro w' hS
    have s0 : w'.cell? ⟨w.heap.size, 3, none⟩ = some (.int .i64 c) := (cell_of_block hS.1 3).trans rfl
    go_simp
  simp only [Act.put, List.getElem_toArray, List.getElem_cons_zero, List.getElem_cons_succ, List.setIfInBounds_toArray, List.set_cons_zero, List.set_cons_succ]
  refine wpAnyH_take (i := 12) (v := .int .u8 c) rfl (by kernel_rfl) (by kernel_rfl) (by kernel_rfl) (fun _ _ _ h => h) (Or.inl ⟨by rfl, ?_⟩) HS0 ?_
  · intro w' hS
    go_simp
  simp only [Act.put, List.getElem_toArray, List.getElem_cons_zero, List.getElem_cons_succ, List.setIfInBounds_toArray, List.set_cons_zero, List.set_cons_succ]
  refine wpAnyH_take (i := 13) (v := .int .i64 0) rfl (by kernel_rfl) (by kernel_rfl) (by kernel_rfl) (fun _ _ _ h => h) (Or.inl ⟨by rfl, ?_⟩) HS0 ?_
  · intro w' hS
    go_simp
  simp only [Act.put, List.getElem_toArray, List.getElem_cons_zero, List.getElem_cons_succ, List.setIfInBounds_toArray, List.set_cons_zero, List.set_cons_succ]
  refine wpAnyH_take (i := 14) (v := .int .u8 0) rfl (by kernel_rfl) (by kernel_rfl) (by kernel_rfl) (fun _ _ _ h => h) (Or.inl ⟨by rfl, ?_⟩) HS0 ?_
  · intro w' hS
    go_simp
  simp only [Act.put, List.getElem_toArray, List.getElem_cons_zero, List.getElem_cons_succ, List.setIfInBounds_toArray, List.set_cons_zero, List.set_cons_succ]
  refine wpAnyH_ready (rs := [2, 15]) (by kernel_rfl) (by simp) ?_
  refine AllReadyH.cons rfl (fun K hK => ?_) (AllReadyH.cons rfl (fun K hK => ?_) AllReadyH.nil)
  · refine if_wanted (wanted_none rfl) ?_
    simp only [List.getElem_toArray, List.getElem_cons_zero, List.getElem_cons_succ]
    go_simp
    refine (hbx _).mono ?_
    rintro e u1 ⟨rfl, hb⟩
    have HT1 := HS0.called hb
    refine hK.out _ _ HT1 (fun HS1 => ?_)
    clear hK K hb HT1
    refine wpAnyH_ready (rs := [5, 15]) (by kernel_rfl) (by simp) ?_
    refine AllReadyH.cons rfl (fun K hK => ?_) (AllReadyH.cons rfl (fun K hK => ?_) AllReadyH.nil)
    · refine if_wanted (wanted_none rfl) ?_
      simp only [List.getElem_toArray, List.getElem_cons_zero, List.getElem_cons_succ]
      go_simp
      refine (hby _).mono ?_
      rintro e u2 ⟨rfl, hb⟩
      have HT2 := HS1.called hb
      refine hK.out _ _ HT2 (fun HS2 => ?_)
      clear hK K hb HT2
      refine wpAnyH_take (i := 6) (v := .string (tA ++ tB)) rfl (by kernel_rfl) (by kernel_rfl) (by kernel_rfl) (fun _ _ _ h => h) (Or.inl ⟨by rfl, ?_⟩) HS2 ?_
      · intro w' hS
        go_simp
      simp only [Act.put, List.getElem_toArray, List.getElem_cons_zero, List.getElem_cons_succ, List.setIfInBounds_toArray, List.set_cons_zero, List.set_cons_succ]
      refine wpAnyH_ready (rs := [15]) (by kernel_rfl) (by simp) ?_
      refine AllReadyH.cons rfl (fun K hK => ?_) AllReadyH.nil
      · refine if_wanted (wanted_none rfl) ?_
        simp only [List.getElem_toArray, List.getElem_cons_zero, List.getElem_cons_succ]
        go_simp
        refine hK.out _ _ (HS2.called (bstart _ _)) (fun HS3 => ?_)
        clear hK K
        have g3 := heap_alloc_new u2 (.cells #[.int .u8 d, .int .u8 c, .int .u8 0, .int .u8 0, .int .u8 0] 5)
        generalize hu3 : u2.alloc (.cells #[.int .u8 d, .int .u8 c, .int .u8 0, .int .u8 0, .int .u8 0] 5) = u3 at HS3 g3 ⊢
        clear hu3
        generalize u2.heap.size = G at g3 ⊢
        refine wpAnyH_ready (rs := [16]) (by kernel_rfl) (by simp) ?_
        refine AllReadyH.cons rfl (fun K hK => ?_) AllReadyH.nil
        · refine if_wanted (wanted_none rfl) ?_
          simp only [List.getElem_toArray, List.getElem_cons_zero, List.getElem_cons_succ]
          have kc := conv5 g3
          rw [htT] at kc
          go_simp
          refine hK.out _ _ HS3 (fun HS4 => ?_)
          clear hK K kc g3
          have HU4 := HS4
          obtain ⟨u4, hu⟩ : ∃ u4, u4 = u3 := ⟨_, rfl⟩
          rw [← hu] at HS4 ⊢
          clear hu HU4
          refine wpAnyH_take (i := 17) (v := .string (tA ++ tB ++ tT)) rfl (by kernel_rfl) (by kernel_rfl) (by kernel_rfl) (fun _ _ _ h => h) (Or.inl ⟨by rfl, ?_⟩) HS4 ?_
          · intro w' hS
            go_simp
          simp only [Act.put, List.getElem_toArray, List.getElem_cons_zero, List.getElem_cons_succ, List.setIfInBounds_toArray, List.set_cons_zero, List.set_cons_succ]
          refine wpAnyH_take (i := 18) (v := .string (tA ++ tB ++ tT)) rfl (by kernel_rfl) (by kernel_rfl) (by kernel_rfl) (fun _ _ _ h => h) (Or.inl ⟨by rfl, ?_⟩) HS4 ?_
          · intro w' hS
            go_simp
          simp only [Act.put, List.getElem_toArray, List.getElem_cons_zero, List.getElem_cons_succ, List.setIfInBounds_toArray, List.set_cons_zero, List.set_cons_succ]
          refine wpAnyH_take (i := 19) (v := .bool true) rfl (by kernel_rfl) (by kernel_rfl) (by kernel_rfl) (fun _ _ _ h => h) (Or.inl ⟨by rfl, ?_⟩) HS4 ?_
          · intro w' hS
            go_simp
          simp only [Act.put, List.getElem_toArray, List.getElem_cons_zero, List.getElem_cons_succ, List.setIfInBounds_toArray, List.set_cons_zero, List.set_cons_succ]
          refine wpAnyH_done (by kernel_rfl) ?_ _
          have HE := hid_of HS4.2
          go_wp2_with fail
          exact bodyPost_ret (v := .tuple #[.string (tA ++ tB ++ tT), .bool true]) (by simp [results, Try.results24, go_sem]) rfl ⟨rfl, HE.out⟩
    · refine if_wanted (wanted_none rfl) ?_
      simp only [List.getElem_toArray, List.getElem_cons_zero, List.getElem_cons_succ]
      go_simp
      refine hK.out _ _ (HS1.called (bstart _ _)) (fun HS2 => ?_)
      clear hK K
      have g2 := heap_alloc_new u1 (.cells #[.int .u8 d, .int .u8 c, .int .u8 0, .int .u8 0, .int .u8 0] 5)
      generalize hu2 : u1.alloc (.cells #[.int .u8 d, .int .u8 c, .int .u8 0, .int .u8 0, .int .u8 0] 5) = u2 at HS2 g2 ⊢
      clear hu2
      generalize u1.heap.size = G at g2 ⊢
      refine wpAnyH_ready (rs := [5, 16]) (by kernel_rfl) (by simp) ?_
      refine AllReadyH.cons rfl (fun K hK => ?_) (AllReadyH.cons rfl (fun K hK => ?_) AllReadyH.nil)
      · refine if_wanted (wanted_none rfl) ?_
        simp only [List.getElem_toArray, List.getElem_cons_zero, List.getElem_cons_succ]
        go_simp
        refine (hby _).mono ?_
        rintro e u3 ⟨rfl, hb⟩
        have HT3 := HS2.called hb
        have g3 := (hb.block _ (block_lt g2)).trans g2
        refine hK.out _ _ HT3 (fun HS3 => ?_)
        clear hK K hb HT3
        refine wpAnyH_take (i := 6) (v := .string (tA ++ tB)) rfl (by kernel_rfl) (by kernel_rfl) (by kernel_rfl) (fun _ _ _ h => h) (Or.inl ⟨by rfl, ?_⟩) HS3 ?_
        · intro w' hS
          go_simp
        simp only [Act.put, List.getElem_toArray, List.getElem_cons_zero, List.getElem_cons_succ, List.setIfInBounds_toArray, List.set_cons_zero, List.set_cons_succ]
        refine wpAnyH_ready (rs := [16]) (by kernel_rfl) (by simp) ?_
        refine AllReadyH.cons rfl (fun K hK => ?_) AllReadyH.nil
        · refine if_wanted (wanted_none rfl) ?_
          simp only [List.getElem_toArray, List.getElem_cons_zero, List.getElem_cons_succ]
          have kc := conv5 g3
          rw [htT] at kc
          go_simp
          refine hK.out _ _ HS3 (fun HS4 => ?_)
          clear hK K kc g3
          have HU4 := HS4
          obtain ⟨u4, hu⟩ : ∃ u4, u4 = u3 := ⟨_, rfl⟩
          rw [← hu] at HS4 ⊢
          clear hu HU4
          refine wpAnyH_take (i := 17) (v := .string (tA ++ tB ++ tT)) rfl (by kernel_rfl) (by kernel_rfl) (by kernel_rfl) (fun _ _ _ h => h) (Or.inl ⟨by rfl, ?_⟩) HS4 ?_
          · intro w' hS
            go_simp
          simp only [Act.put, List.getElem_toArray, List.getElem_cons_zero, List.getElem_cons_succ, List.setIfInBounds_toArray, List.set_cons_zero, List.set_cons_succ]
          refine wpAnyH_take (i := 18) (v := .string (tA ++ tB ++ tT)) rfl (by kernel_rfl) (by kernel_rfl) (by kernel_rfl) (fun _ _ _ h => h) (Or.inl ⟨by rfl, ?_⟩) HS4 ?_
          · intro w' hS
            go_simp
          simp only [Act.put, List.getElem_toArray, List.getElem_cons_zero, List.getElem_cons_succ, List.setIfInBounds_toArray, List.set_cons_zero, List.set_cons_succ]
          refine wpAnyH_take (i := 19) (v := .bool true) rfl (by kernel_rfl) (by kernel_rfl) (by kernel_rfl) (fun _ _ _ h => h) (Or.inl ⟨by rfl, ?_⟩) HS4 ?_
          · intro w' hS
            go_simp
          simp only [Act.put, List.getElem_toArray, List.getElem_cons_zero, List.getElem_cons_succ, List.setIfInBounds_toArray, List.set_cons_zero, List.set_cons_succ]
          refine wpAnyH_done (by kernel_rfl) ?_ _
          have HE := hid_of HS4.2
          go_wp2_with fail
          exact bodyPost_ret (v := .tuple #[.string (tA ++ tB ++ tT), .bool true]) (by simp [results, Try.results24, go_sem]) rfl ⟨rfl, HE.out⟩
      · refine if_wanted (wanted_none rfl) ?_
        simp only [List.getElem_toArray, List.getElem_cons_zero, List.getElem_cons_succ]
        have kc := conv5 g2
        rw [htT] at kc
        go_simp
        refine hK.out _ _ HS2 (fun HS3 => ?_)
        clear hK K kc g2
        have HU3 := HS3
        obtain ⟨u3, hu⟩ : ∃ u3, u3 = u2 := ⟨_, rfl⟩
        rw [← hu] at HS3 ⊢
        clear hu HU3
        refine wpAnyH_ready (rs := [5]) (by kernel_rfl) (by simp) ?_
        refine AllReadyH.cons rfl (fun K hK => ?_) AllReadyH.nil
        · refine if_wanted (wanted_none rfl) ?_
          simp only [List.getElem_toArray, List.getElem_cons_zero, List.getElem_cons_succ]
          go_simp
          refine (hby _).mono ?_
          rintro e u4 ⟨rfl, hb⟩
          have HT4 := HS3.called hb
          refine hK.out _ _ HT4 (fun HS4 => ?_)
          clear hK K hb HT4
          refine wpAnyH_take (i := 6) (v := .string (tA ++ tB)) rfl (by kernel_rfl) (by kernel_rfl) (by kernel_rfl) (fun _ _ _ h => h) (Or.inl ⟨by rfl, ?_⟩) HS4 ?_
          · intro w' hS
            go_simp
          simp only [Act.put, List.getElem_toArray, List.getElem_cons_zero, List.getElem_cons_succ, List.setIfInBounds_toArray, List.set_cons_zero, List.set_cons_succ]
          refine wpAnyH_take (i := 17) (v := .string (tA ++ tB ++ tT)) rfl (by kernel_rfl) (by kernel_rfl) (by kernel_rfl) (fun _ _ _ h => h) (Or.inl ⟨by rfl, ?_⟩) HS4 ?_
          · intro w' hS
            go_simp
          simp only [Act.put, List.getElem_toArray, List.getElem_cons_zero, List.getElem_cons_succ, List.setIfInBounds_toArray, List.set_cons_zero, List.set_cons_succ]
          refine wpAnyH_take (i := 18) (v := .string (tA ++ tB ++ tT)) rfl (by kernel_rfl) (by kernel_rfl) (by kernel_rfl) (fun _ _ _ h => h) (Or.inl ⟨by rfl, ?_⟩) HS4 ?_
          · intro w' hS
            go_simp
          simp only [Act.put, List.getElem_toArray, List.getElem_cons_zero, List.getElem_cons_succ, List.setIfInBounds_toArray, List.set_cons_zero, List.set_cons_succ]
          refine wpAnyH_take (i := 19) (v := .bool true) rfl (by kernel_rfl) (by kernel_rfl) (by kernel_rfl) (fun _ _ _ h => h) (Or.inl ⟨by rfl, ?_⟩) HS4 ?_
          · intro w' hS
            go_simp
          simp only [Act.put, List.getElem_toArray, List.getElem_cons_zero, List.getElem_cons_succ, List.setIfInBounds_toArray, List.set_cons_zero, List.set_cons_succ]
          refine wpAnyH_done (by kernel_rfl) ?_ _
          have HE := hid_of HS4.2
          go_wp2_with fail
          exact bodyPost_ret (v := .tuple #[.string (tA ++ tB ++ tT), .bool true]) (by simp [results, Try.results24, go_sem]) rfl ⟨rfl, HE.out⟩
  · refine if_wanted (wanted_none rfl) ?_
    simp only [List.getElem_toArray, List.getElem_cons_zero, List.getElem_cons_succ]
    go_simp
    refine hK.out _ _ (HS0.called (bstart _ _)) (fun HS1 => ?_)
    clear hK K
    have g1 := heap_alloc_new u0 (.cells #[.int .u8 d, .int .u8 c, .int .u8 0, .int .u8 0, .int .u8 0] 5)
    generalize hu1 : u0.alloc (.cells #[.int .u8 d, .int .u8 c, .int .u8 0, .int .u8 0, .int .u8 0] 5) = u1 at HS1 g1 ⊢
    clear hu1
    generalize u0.heap.size = G at g1 ⊢
    refine wpAnyH_ready (rs := [2, 16]) (by kernel_rfl) (by simp) ?_
    refine AllReadyH.cons rfl (fun K hK => ?_) (AllReadyH.cons rfl (fun K hK => ?_) AllReadyH.nil)
    · refine if_wanted (wanted_none rfl) ?_
      simp only [List.getElem_toArray, List.getElem_cons_zero, List.getElem_cons_succ]
      go_simp
      refine (hbx _).mono ?_
      rintro e u2 ⟨rfl, hb⟩
      have HT2 := HS1.called hb
      have g2 := (hb.block _ (block_lt g1)).trans g1
      refine hK.out _ _ HT2 (fun HS2 => ?_)
      clear hK K hb HT2
      refine wpAnyH_ready (rs := [5, 16]) (by kernel_rfl) (by simp) ?_
      refine AllReadyH.cons rfl (fun K hK => ?_) (AllReadyH.cons rfl (fun K hK => ?_) AllReadyH.nil)
      · refine if_wanted (wanted_none rfl) ?_
        simp only [List.getElem_toArray, List.getElem_cons_zero, List.getElem_cons_succ]
        go_simp
        refine (hby _).mono ?_
        rintro e u3 ⟨rfl, hb⟩
        have HT3 := HS2.called hb
        have g3 := (hb.block _ (block_lt g2)).trans g2
        refine hK.out _ _ HT3 (fun HS3 => ?_)
        clear hK K hb HT3
        refine wpAnyH_take (i := 6) (v := .string (tA ++ tB)) rfl (by kernel_rfl) (by kernel_rfl) (by kernel_rfl) (fun _ _ _ h => h) (Or.inl ⟨by rfl, ?_⟩) HS3 ?_
        · intro w' hS
          go_simp
        simp only [Act.put, List.getElem_toArray, List.getElem_cons_zero, List.getElem_cons_succ, List.setIfInBounds_toArray, List.set_cons_zero, List.set_cons_succ]
        refine wpAnyH_ready (rs := [16]) (by kernel_rfl) (by simp) ?_
        refine AllReadyH.cons rfl (fun K hK => ?_) AllReadyH.nil
        · refine if_wanted (wanted_none rfl) ?_
          simp only [List.getElem_toArray, List.getElem_cons_zero, List.getElem_cons_succ]
          have kc := conv5 g3
          rw [htT] at kc
          go_simp
          refine hK.out _ _ HS3 (fun HS4 => ?_)
          clear hK K kc g3
          have HU4 := HS4
          obtain ⟨u4, hu⟩ : ∃ u4, u4 = u3 := ⟨_, rfl⟩
          rw [← hu] at HS4 ⊢
          clear hu HU4
          refine wpAnyH_take (i := 17) (v := .string (tA ++ tB ++ tT)) rfl (by kernel_rfl) (by kernel_rfl) (by kernel_rfl) (fun _ _ _ h => h) (Or.inl ⟨by rfl, ?_⟩) HS4 ?_
          · intro w' hS
            go_simp
          simp only [Act.put, List.getElem_toArray, List.getElem_cons_zero, List.getElem_cons_succ, List.setIfInBounds_toArray, List.set_cons_zero, List.set_cons_succ]
          refine wpAnyH_take (i := 18) (v := .string (tA ++ tB ++ tT)) rfl (by kernel_rfl) (by kernel_rfl) (by kernel_rfl) (fun _ _ _ h => h) (Or.inl ⟨by rfl, ?_⟩) HS4 ?_
          · intro w' hS
            go_simp
          simp only [Act.put, List.getElem_toArray, List.getElem_cons_zero, List.getElem_cons_succ, List.setIfInBounds_toArray, List.set_cons_zero, List.set_cons_succ]
          refine wpAnyH_take (i := 19) (v := .bool true) rfl (by kernel_rfl) (by kernel_rfl) (by kernel_rfl) (fun _ _ _ h => h) (Or.inl ⟨by rfl, ?_⟩) HS4 ?_
          · intro w' hS
            go_simp
          simp only [Act.put, List.getElem_toArray, List.getElem_cons_zero, List.getElem_cons_succ, List.setIfInBounds_toArray, List.set_cons_zero, List.set_cons_succ]
          refine wpAnyH_done (by kernel_rfl) ?_ _
          have HE := hid_of HS4.2
          go_wp2_with fail
          exact bodyPost_ret (v := .tuple #[.string (tA ++ tB ++ tT), .bool true]) (by simp [results, Try.results24, go_sem]) rfl ⟨rfl, HE.out⟩
      · refine if_wanted (wanted_none rfl) ?_
        simp only [List.getElem_toArray, List.getElem_cons_zero, List.getElem_cons_succ]
        have kc := conv5 g2
        rw [htT] at kc
        go_simp
        refine hK.out _ _ HS2 (fun HS3 => ?_)
        clear hK K kc g2
        have HU3 := HS3
        obtain ⟨u3, hu⟩ : ∃ u3, u3 = u2 := ⟨_, rfl⟩
        rw [← hu] at HS3 ⊢
        clear hu HU3
        refine wpAnyH_ready (rs := [5]) (by kernel_rfl) (by simp) ?_
        refine AllReadyH.cons rfl (fun K hK => ?_) AllReadyH.nil
        · refine if_wanted (wanted_none rfl) ?_
          simp only [List.getElem_toArray, List.getElem_cons_zero, List.getElem_cons_succ]
          go_simp
          refine (hby _).mono ?_
          rintro e u4 ⟨rfl, hb⟩
          have HT4 := HS3.called hb
          refine hK.out _ _ HT4 (fun HS4 => ?_)
          clear hK K hb HT4
          refine wpAnyH_take (i := 6) (v := .string (tA ++ tB)) rfl (by kernel_rfl) (by kernel_rfl) (by kernel_rfl) (fun _ _ _ h => h) (Or.inl ⟨by rfl, ?_⟩) HS4 ?_
          · intro w' hS
            go_simp
          simp only [Act.put, List.getElem_toArray, List.getElem_cons_zero, List.getElem_cons_succ, List.setIfInBounds_toArray, List.set_cons_zero, List.set_cons_succ]
          refine wpAnyH_take (i := 17) (v := .string (tA ++ tB ++ tT)) rfl (by kernel_rfl) (by kernel_rfl) (by kernel_rfl) (fun _ _ _ h => h) (Or.inl ⟨by rfl, ?_⟩) HS4 ?_
          · intro w' hS
            go_simp
          simp only [Act.put, List.getElem_toArray, List.getElem_cons_zero, List.getElem_cons_succ, List.setIfInBounds_toArray, List.set_cons_zero, List.set_cons_succ]
          refine wpAnyH_take (i := 18) (v := .string (tA ++ tB ++ tT)) rfl (by kernel_rfl) (by kernel_rfl) (by kernel_rfl) (fun _ _ _ h => h) (Or.inl ⟨by rfl, ?_⟩) HS4 ?_
          · intro w' hS
            go_simp
          simp only [Act.put, List.getElem_toArray, List.getElem_cons_zero, List.getElem_cons_succ, List.setIfInBounds_toArray, List.set_cons_zero, List.set_cons_succ]
          refine wpAnyH_take (i := 19) (v := .bool true) rfl (by kernel_rfl) (by kernel_rfl) (by kernel_rfl) (fun _ _ _ h => h) (Or.inl ⟨by rfl, ?_⟩) HS4 ?_
          · intro w' hS
            go_simp
          simp only [Act.put, List.getElem_toArray, List.getElem_cons_zero, List.getElem_cons_succ, List.setIfInBounds_toArray, List.set_cons_zero, List.set_cons_succ]
          refine wpAnyH_done (by kernel_rfl) ?_ _
          have HE := hid_of HS4.2
          go_wp2_with fail
          exact bodyPost_ret (v := .tuple #[.string (tA ++ tB ++ tT), .bool true]) (by simp [results, Try.results24, go_sem]) rfl ⟨rfl, HE.out⟩
    · refine if_wanted (wanted_none rfl) ?_
      simp only [List.getElem_toArray, List.getElem_cons_zero, List.getElem_cons_succ]
      have kc := conv5 g1
      rw [htT] at kc
      go_simp
      refine hK.out _ _ HS1 (fun HS2 => ?_)
      clear hK K kc g1
      have HU2 := HS2
      obtain ⟨u2, hu⟩ : ∃ u2, u2 = u1 := ⟨_, rfl⟩
      rw [← hu] at HS2 ⊢
      clear hu HU2
      refine wpAnyH_ready (rs := [2]) (by kernel_rfl) (by simp) ?_
      refine AllReadyH.cons rfl (fun K hK => ?_) AllReadyH.nil
      · refine if_wanted (wanted_none rfl) ?_
        simp only [List.getElem_toArray, List.getElem_cons_zero, List.getElem_cons_succ]
        go_simp
        refine (hbx _).mono ?_
        rintro e u3 ⟨rfl, hb⟩
        have HT3 := HS2.called hb
        refine hK.out _ _ HT3 (fun HS3 => ?_)
        clear hK K hb HT3
        refine wpAnyH_ready (rs := [5]) (by kernel_rfl) (by simp) ?_
        refine AllReadyH.cons rfl (fun K hK => ?_) AllReadyH.nil
        · refine if_wanted (wanted_none rfl) ?_
          simp only [List.getElem_toArray, List.getElem_cons_zero, List.getElem_cons_succ]
          go_simp
          refine (hby _).mono ?_
          rintro e u4 ⟨rfl, hb⟩
          have HT4 := HS3.called hb
          refine hK.out _ _ HT4 (fun HS4 => ?_)
          clear hK K hb HT4
          refine wpAnyH_take (i := 6) (v := .string (tA ++ tB)) rfl (by kernel_rfl) (by kernel_rfl) (by kernel_rfl) (fun _ _ _ h => h) (Or.inl ⟨by rfl, ?_⟩) HS4 ?_
          · intro w' hS
            go_simp
          simp only [Act.put, List.getElem_toArray, List.getElem_cons_zero, List.getElem_cons_succ, List.setIfInBounds_toArray, List.set_cons_zero, List.set_cons_succ]
          refine wpAnyH_take (i := 17) (v := .string (tA ++ tB ++ tT)) rfl (by kernel_rfl) (by kernel_rfl) (by kernel_rfl) (fun _ _ _ h => h) (Or.inl ⟨by rfl, ?_⟩) HS4 ?_
          · intro w' hS
            go_simp
          simp only [Act.put, List.getElem_toArray, List.getElem_cons_zero, List.getElem_cons_succ, List.setIfInBounds_toArray, List.set_cons_zero, List.set_cons_succ]
          refine wpAnyH_take (i := 18) (v := .string (tA ++ tB ++ tT)) rfl (by kernel_rfl) (by kernel_rfl) (by kernel_rfl) (fun _ _ _ h => h) (Or.inl ⟨by rfl, ?_⟩) HS4 ?_
          · intro w' hS
            go_simp
          simp only [Act.put, List.getElem_toArray, List.getElem_cons_zero, List.getElem_cons_succ, List.setIfInBounds_toArray, List.set_cons_zero, List.set_cons_succ]
          refine wpAnyH_take (i := 19) (v := .bool true) rfl (by kernel_rfl) (by kernel_rfl) (by kernel_rfl) (fun _ _ _ h => h) (Or.inl ⟨by rfl, ?_⟩) HS4 ?_
          · intro w' hS
            go_simp
          simp only [Act.put, List.getElem_toArray, List.getElem_cons_zero, List.getElem_cons_succ, List.setIfInBounds_toArray, List.set_cons_zero, List.set_cons_succ]
          refine wpAnyH_done (by kernel_rfl) ?_ _
          have HE := hid_of HS4.2
          go_wp2_with fail
          exact bodyPost_ret (v := .tuple #[.string (tA ++ tB ++ tT), .bool true]) (by simp [results, Try.results24, go_sem]) rfl ⟨rfl, HE.out⟩
theorem specHeadText (x y d c : Int) (l : Bool) (w : World) :
    Calls Try.prog 24 #[.agg #[.int .i64 x, .int .i64 y, .int .i64 d, .int .i64 c, .bool l]] w fun e w' => e = headAns x y d c l ∧ Below w.heap.size w w' := by
  by_cases h : HeadR x y d c
  · unfold headAns
    rw [if_pos h]
    cases l
    · exact specHeadText_none x y d c w h
    · exact specHeadText_one x y d c w h
  · exact specHeadText_no x y d c l w h
set_option maxRecDepth 100000 in
set_option maxHeartbeats 3200000 in
theorem specReadHead (t : ByteArray) (w : World) (ht : t.size ≤ 1048576) :
    Calls Try.prog 25 #[.string t] w fun e w' => e = readHAns t ∧ Below w.heap.size w w' := by
  have HB := hid_of (bstart w (.cells #[.int .i64 0, .int .i64 0, .int .i64 0, .int .i64 0, .bool false] 25))
  by_cases h13 : t.size = 13
  · have HT : Hid ((headT (hx t) (hy t) (hd t) (hc t) (hl t) = t) ↔ (tb t 10 = 0 ∧ tb t 11 = 0 ∧ tb t 12 ≤ 1)) := head_told t h13
    have k4 : ((4 : Nat) : Int) = 4 := rfl
    have k0 : ((0 : Nat) : Int) = 0 := rfl
    have hr0 := fun W => specRead_yes t 0 4 W ht (by omega) (by omega) (by omega)
    have hr4 := fun W => specRead_yes t 4 4 W ht (by omega) (by omega) (by omega)
    rw [k0, k4] at hr0
    rw [k4] at hr4
    have ex : rb t 0 4 = hx t := rfl
    have ey : rb t 4 4 = hy t := rfl
    rw [ex] at hr0
    rw [ey] at hr4
    clear ex ey
    have n13 : ((t.size : Int) != 13) = false := by rw [h13]; rfl
    have z8 : 8 < t.size := by omega
    have z9 : 9 < t.size := by omega
    have z12 : 12 < t.size := by omega
    have q8 : (t[8]'z8).toNat = tb t 8 := tb_at t 8 z8
    have q9 : (t[9]'z9).toNat = tb t 9 := tb_at t 9 z9
    have q12 : (t[12]'z12).toNat = tb t 12 := tb_at t 12 z12
    have b8 := tb_lt t 8
    have b9 := tb_lt t 9
    have H13 := hid_of h13
    have hk := specHeadText (hx t) (hy t) (tb t 8 : Int) (tb t 9 : Int) ((tb t 12 : Int) == 1)
    have w8 : IntKind.i64.wrap (tb t 8 : Int) = (tb t 8 : Int) := by rw [IntKind.wrap_i64]; omega
    have w9 : IntKind.i64.wrap (tb t 9 : Int) = (tb t 9 : Int) := by rw [IntKind.wrap_i64]; omega
    clear h13
    go_enter Try.func25, Try.ntmps25
    go_wp2_with fail
    refine (hr0 _).mono ?_
    rintro e w1 ⟨rfl, rfl⟩
    go_wp2_with fail
    refine (hr4 _).mono ?_
    rintro e w1 ⟨rfl, rfl⟩
    go_wp2_with fail
    go_region
    go_wp2_with fail
    have HB2 : Hid (Below w.heap.size w ((w.alloc (.cells #[.int .i64 0, .int .i64 0, .int .i64 0, .int .i64 0, .bool false] 25)).alloc (.cells #[.int .i64 (hx t), .int .i64 (hy t), .int .i64 (tb t 8 : Int), .int .i64 (tb t 9 : Int), .bool ((tb t 12 : Int) == 1)] 25)).drew) := bdraws (bal (bstart _ _) _) 1
    have HX2 := hid_of (two_boxes w (.cells #[.int .i64 0, .int .i64 0, .int .i64 0, .int .i64 0, .bool false] 25) (.cells #[.int .i64 (hx t), .int .i64 (hy t), .int .i64 (tb t 8 : Int), .int .i64 (tb t 9 : Int), .bool ((tb t 12 : Int) == 1)] 25))
    generalize ((w.alloc (.cells #[.int .i64 0, .int .i64 0, .int .i64 0, .int .i64 0, .bool false] 25)).alloc (.cells #[.int .i64 (hx t), .int .i64 (hy t), .int .i64 (tb t 8 : Int), .int .i64 (tb t 9 : Int), .bool ((tb t 12 : Int) == 1)] 25)).drew = W2 at HB2 HX2 ⊢
    refine (hk W2).mono ?_
    rintro e w3 ⟨he, hB3⟩
    have HZ3 := hid_of ((hB3.block _ (block_lt HX2.out.1)).trans HX2.out.1)
    have HH3 := hid_of ((hB3.block _ (block_lt HX2.out.2)).trans HX2.out.2)
    have HB3 := hid_of (bnext HB2.out hB3)
    obtain ⟨a0, a1, a2, a3, a4⟩ := head_cells HZ3.out
    obtain ⟨c0, c1, c2, c3, c4⟩ := head_cells HH3.out
    have lz := block_lt HZ3.out
    have lh := block_lt HH3.out
    have fz : ∀ q, w3.frozen? ⟨w.heap.size, q, none⟩ = false := fun q => by simp [World.frozen?, HZ3.out]
    clear hB3 HX2 HB2 HZ3 HH3 hk hr0 hr4
    by_cases hR : HeadR (hx t) (hy t) (hd t) (hc t)
    · by_cases hS : tb t 10 = 0 ∧ tb t 11 = 0 ∧ tb t 12 ≤ 1
      · have HI : Hid (HeadIn t) := ⟨H13.out, hR, hS⟩
        have hq : headT (hx t) (hy t) (tb t 8 : Int) (tb t 9 : Int) ((tb t 12 : Int) == 1) = t := HT.out.mpr hS
        unfold headAns at he
        rw [if_pos (show HeadR (hx t) (hy t) (tb t 8 : Int) (tb t 9 : Int) from hR), hq] at he
        subst he
        clear hq hS hR HT
        go_wp2_with fail
        refine bodyPost_ret (v := .tuple #[.agg #[.int .i64 (hx t), .int .i64 (hy t), .int .i64 (tb t 8 : Int), .int .i64 (tb t 9 : Int), .bool ((tb t 12 : Int) == 1)], .bool true]) ?_ rfl ⟨(readHAns_yes HI.out).symm, ?_⟩
        · simp [results, Try.results25, go_sem, *]
        · repeat' refine Below.setCell ?_ (by first | (simp; done) | (simp; omega)) _
          exact HB3.out
      · have HI : Hid (¬ HeadIn t) := fun h => hS h.2.2
        have hq : ((headT (hx t) (hy t) (tb t 8 : Int) (tb t 9 : Int) ((tb t 12 : Int) == 1)).toList == t.toList) = false := text_ne fun h => hS (HT.out.mp h)
        unfold headAns at he
        rw [if_pos (show HeadR (hx t) (hy t) (tb t 8 : Int) (tb t 9 : Int) from hR)] at he
        generalize headT (hx t) (hy t) (tb t 8 : Int) (tb t 9 : Int) ((tb t 12 : Int) == 1) = X at he hq
        subst he
        clear hS hR HT
        go_wp2_with fail
        refine bodyPost_ret (v := .tuple #[.agg #[.int .i64 0, .int .i64 0, .int .i64 0, .int .i64 0, .bool false], .bool false]) ?_ rfl ⟨(readHAns_no HI.out).symm, ?_⟩
        · simp [results, Try.results25, go_sem, *]
        · repeat' refine Below.setCell ?_ (by first | (simp; done) | (simp; omega)) _
          exact HB3.out
    · have HI : Hid (¬ HeadIn t) := fun h => hR h.2.1
      unfold headAns at he
      rw [if_neg (show ¬ HeadR (hx t) (hy t) (tb t 8 : Int) (tb t 9 : Int) from hR)] at he
      subst he
      clear hR HT
      go_wp2_with fail
      refine bodyPost_ret (v := .tuple #[.agg #[.int .i64 0, .int .i64 0, .int .i64 0, .int .i64 0, .bool false], .bool false]) ?_ rfl ⟨(readHAns_no HI.out).symm, ?_⟩
      · simp [results, Try.results25, go_sem, *]
      · repeat' refine Below.setCell ?_ (by first | (simp; done) | (simp; omega)) _
        exact HB3.out
  · have n13 : ((t.size : Int) != 13) = true := by simp; omega
    have HN : Hid (¬ HeadIn t) := fun h => h13 h.1
    clear h13
    go_enter Try.func25, Try.ntmps25
    go_wp2_with fail
    refine bodyPost_ret (v := .tuple #[.agg #[.int .i64 0, .int .i64 0, .int .i64 0, .int .i64 0, .bool false], .bool false]) ?_ rfl ⟨(readHAns_no HN.out).symm, ?_⟩
    · simp [results, Try.results25, go_sem]
    · repeat' refine Below.setCell ?_ (by first | (simp; done) | (simp; omega)) _
      exact HB.out
end Go.Proofs.Ytcnlcbkgbcnloaa
