/-
  The walks of the document's model of tables. (Printed by tools/mktable.py.)
-/
import Derived.Test.YtcnlcbkgbcnloaaRows
import Derived.Test.YtcnlcbkgbcnloaaBase
import Derived.Test.YtcnlcbkgbcnloaaInWalks
import Derived.Test.YtcnlcbkgbcnloaaHeadMath
import Derived.Test.YtcnlcbkgbcnloaaRgbLib
import Derived.Test.YtcnlcbkgbcnloaaRgbList
import Derived.Test.YtcnlcbkgbcnloaaRgbMark
import Derived.Test.YtcnlcbkgbcnloaaTableAns
import Derived.Test.YtcnlcbkgbcnloaaPartLen12
import Derived.WalkKit
import Derived.ProofKit
import Derived.WalkLawsBesides
import Derived.Deep.RegionHeld3
import Derived.Deep.AppendLies
import Derived.Below
import Derived.OwnWalk
import Derived.Lib.SmallJoins
namespace Go.Proofs.Ytcnlcbkgbcnloaa
open Go.RowKit Go.Joins HeadMath

theorem specByte17 (x : Int) (w : World) : Calls Try.prog 58 #[.int .i64 x] w fun e w' => e = .returned (.bool (decide (0 ≤ x ∧ x ≤ 255))) ∧ w' = w := by
  by_cases h : 0 ≤ x ∧ x ≤ 255
  · rw [decide_eq_true h]
    go_enter Try.func58, Try.ntmps58
    go_wp2_with fail
    refine (in_yes x 0 255 _ h.1 h.2).mono ?_
    rintro e w1 ⟨rfl, rfl⟩
    go_wp2_with fail
    go_ret
    exact ⟨rfl, rfl⟩
  · rw [decide_eq_false h]
    go_enter Try.func58, Try.ntmps58
    go_wp2_with fail
    refine (in_no x 0 255 _ h).mono ?_
    rintro e w1 ⟨rfl, rfl⟩
    go_wp2_with fail
    go_ret
    exact ⟨rfl, rfl⟩
set_option maxRecDepth 100000 in
set_option maxHeartbeats 6400000 in
theorem specTableText (a : Option Addr) (n cap : Nat) (F : Nat → Rgb3) (w : World) (hC : RgbCame w a n F) (hn : n ≤ 1048576) :
    Calls Try.prog 28 #[.slice a n cap] w (TabPost F n w) := by
  by_cases h1 : 1 ≤ (n : Int) ∧ (n : Int) ≤ 256
  · have hi := fun W => in_yes (n : Int) 1 256 W h1.1 h1.2
    have HC := hid_of hC
    have H1 := hid_of h1
    have H0 := hid_of (TbB.empty w F)
    clear hC
    go_enter Try.func28, Try.ntmps28
    go_wp2_with fail
    refine (hi _).mono ?_
    rintro e w1 ⟨rfl, rfl⟩
    go_wp2_with fail
    go_loopw [4, 5] (fun v i w' => ∃ j : Nat, j ≤ n ∧ i = .int .i64 j ∧ Hid (TbB w1 w' v F j)) (fun _ i _ => n - (intOf i).toNat)
    case atStart => exact ⟨0, Nat.zero_le _, rfl, H0⟩
    case round =>
      clear H0 hi
      obtain ⟨j, hj, rfl, hS⟩ := hrel
      by_cases hlt : j < n
      · rcases HC.out with h0 | ⟨g, off, rfl, hg, hc⟩
        · omega
        · obtain ⟨q0, q1, q2⟩ := hc j hlt
          have c0 := (hS.out.2.2.cell (p := ⟨g, off + j * 3, none⟩) hg).trans q0
          have c1 := (hS.out.2.2.cell (p := ⟨g, off + j * 3 + 1, none⟩) hg).trans q1
          have c2 := (hS.out.2.2.cell (p := ⟨g, off + j * 3 + 2, none⟩) hg).trans q2
          have lg : g < wr.heap.size := Nat.lt_of_lt_of_le hg hS.out.2.2.size
          have b0 := specByte17 (F j).1
          have b1 := specByte17 (F j).2.1
          have b2 := specByte17 (F j).2.2
          have HJ : Hid (RgbR (F j) ↔ (0 ≤ (F j).1 ∧ (F j).1 ≤ 255) ∧ (0 ≤ (F j).2.1 ∧ (F j).2.1 ≤ 255) ∧ (0 ≤ (F j).2.2 ∧ (F j).2.2 ≤ 255)) := Iff.rfl
          have HNX : Hid (RgbR (F j) → ∀ w2 v', w2.ownsRow w1.heap.size 5 1 v' (3 * j + 3) (t8 (colN F j) ++ t8 [(F j).1, (F j).2.1, (F j).2.2]) → ∀ o, (wr.drew.alloc o).grownBy w2 u4.ownBlock → TbB w1 w2 v' F (j + 1)) := fun h w2 v' k o hg => TbB.next (hS.out.called (bal (bdraws (Below.refl _ _) 1) o)) h k hg
          have HB := hid_of hS.out
          obtain ⟨x, hx⟩ : ∃ x, x = (F j).1 := ⟨_, rfl⟩
          obtain ⟨y, hy⟩ : ∃ y, y = (F j).2.1 := ⟨_, rfl⟩
          obtain ⟨z, hz⟩ : ∃ z, z = (F j).2.2 := ⟨_, rfl⟩
          rw [← hx] at c0 b0 HJ HNX
          rw [← hy] at c1 b1 HJ HNX
          rw [← hz] at c2 b2 HJ HNX
          rw [← hx] at q0
          rw [← hy] at q1
          rw [← hz] at q2
          clear hc hx hy hz hS
          have no : ¬ ((0 ≤ x ∧ x ≤ 255) ∧ (0 ≤ y ∧ y ≤ 255) ∧ (0 ≤ z ∧ z ≤ 255)) → ¬ TableR F n := fun h k => h (HJ.out.mp (k.2 j hlt))
          by_cases hx : 0 ≤ x ∧ x ≤ 255
          · rw [decide_eq_true hx] at b0
            by_cases hy : 0 ≤ y ∧ y ≤ 255
            · rw [decide_eq_true hy] at b1
              by_cases hz : 0 ≤ z ∧ z ≤ 255
              · rw [decide_eq_true hz] at b2
                have HNY := hid_of (HNX.out (HJ.out.mpr ⟨hx, hy, hz⟩))
                have k1 : IntKind.u8.wrap x = x := by show x % 256 = x; omega
                have k2 : IntKind.u8.wrap y = y := by show y % 256 = y; omega
                have k3 : IntKind.u8.wrap z = z := by show z % 256 = z; omega
                clear no HNX HJ hx hy hz
                go_wp2_with fail
                refine (b0 _).mono ?_
                rintro e w5 ⟨rfl, rfl⟩
                go_wp2_with fail
                refine (b1 _).mono ?_
                rintro e w5 ⟨rfl, rfl⟩
                go_wp2_with fail
                refine (b2 _).mono ?_
                rintro e w5 ⟨rfl, rfl⟩
                go_wp2_with fail
                refine wp_region_held (S := fun u => u.cell? ⟨g, off + j * 3, none⟩ = some (.int .i64 x) ∧ u.cell? ⟨g, off + j * 3 + 1, none⟩ = some (.int .i64 y) ∧ u.cell? ⟨g, off + j * 3 + 2, none⟩ = some (.int .i64 z)) (by kernel_rfl) ?_
                show wpAnyH _ _ _ _ _ _ _ _ w5.drew
                have HS : w5.drew.cell? ⟨g, off + j * 3, none⟩ = some (.int .i64 x) ∧ w5.drew.cell? ⟨g, off + j * 3 + 1, none⟩ = some (.int .i64 y) ∧ w5.drew.cell? ⟨g, off + j * 3 + 2, none⟩ = some (.int .i64 z) := ⟨c0, c1, c2⟩
                refine wpAnyH_take (i := 0) (v := u4) rfl (by kernel_rfl) (by kernel_rfl) (by kernel_rfl) (fun _ _ _ h => h) (Or.inl ⟨by rfl, ?_⟩) HS ?_
                · intro w' _
                  go_simp
                simp only [Act.put, List.getElem_toArray, List.getElem_cons_zero, List.setIfInBounds_toArray, List.set_cons_zero, List.set_cons_succ]
                refine wpAnyH_take (i := 1) (v := .slice (some ⟨g, off, none⟩) n cap) rfl (by kernel_rfl) (by kernel_rfl) (by kernel_rfl) (fun _ _ _ h => h) (Or.inl ⟨by rfl, ?_⟩) HS ?_
                · intro w' _
                  go_simp
                simp only [Act.put, List.getElem_toArray, List.getElem_cons_zero, List.getElem_cons_succ, List.setIfInBounds_toArray, List.set_cons_zero, List.set_cons_succ]
                refine wpAnyH_take (i := 2) (v := .int .i64 (j : Int)) rfl (by kernel_rfl) (by kernel_rfl) (by kernel_rfl) (fun _ _ _ h => h) (Or.inl ⟨by rfl, ?_⟩) HS ?_
                · intro w' _
                  go_simp
                simp only [Act.put, List.getElem_toArray, List.getElem_cons_zero, List.getElem_cons_succ, List.setIfInBounds_toArray, List.set_cons_zero, List.set_cons_succ]
                refine wpAnyH_take (i := 3) (v := .pointer (some ⟨g, off + j * 3, none⟩)) rfl (by kernel_rfl) (by kernel_rfl) (by kernel_rfl) (fun _ _ _ h => h) (Or.inl ⟨by rfl, ?_⟩) HS ?_
                · intro w' _
                  go_simp
                simp only [Act.put, List.getElem_toArray, List.getElem_cons_zero, List.getElem_cons_succ, List.setIfInBounds_toArray, List.set_cons_zero, List.set_cons_succ]
                refine wpAnyH_take (i := 4) (v := .pointer (some ⟨g, off + j * 3, none⟩)) rfl (by kernel_rfl) (by kernel_rfl) (by kernel_rfl) (fun _ _ _ h => h) (Or.inl ⟨by rfl, ?_⟩) HS ?_
                · intro w' _
                  go_simp
                simp only [Act.put, List.getElem_toArray, List.getElem_cons_zero, List.getElem_cons_succ, List.setIfInBounds_toArray, List.set_cons_zero, List.set_cons_succ]
                refine wpAnyH_take (i := 5) (v := .int .i64 x) rfl (by kernel_rfl) (by kernel_rfl) (by kernel_rfl) (fun _ _ _ h => h) (Or.inl ⟨by rfl, ?_⟩) HS ?_
                · intro w' hS
                  obtain ⟨s0, s1, s2⟩ := hS
                  go_simp
                simp only [Act.put, List.getElem_toArray, List.getElem_cons_zero, List.getElem_cons_succ, List.setIfInBounds_toArray, List.set_cons_zero, List.set_cons_succ]
                refine wpAnyH_take (i := 6) (v := .int .u8 x) rfl (by kernel_rfl) (by kernel_rfl) (by kernel_rfl) (fun _ _ _ h => h) (Or.inl ⟨by rfl, ?_⟩) HS ?_
                · intro w' _
                  go_simp
                simp only [Act.put, List.getElem_toArray, List.getElem_cons_zero, List.getElem_cons_succ, List.setIfInBounds_toArray, List.set_cons_zero, List.set_cons_succ]
                refine wpAnyH_take (i := 7) (v := .slice (some ⟨g, off, none⟩) n cap) rfl (by kernel_rfl) (by kernel_rfl) (by kernel_rfl) (fun _ _ _ h => h) (Or.inl ⟨by rfl, ?_⟩) HS ?_
                · intro w' _
                  go_simp
                simp only [Act.put, List.getElem_toArray, List.getElem_cons_zero, List.getElem_cons_succ, List.setIfInBounds_toArray, List.set_cons_zero, List.set_cons_succ]
                refine wpAnyH_take (i := 8) (v := .int .i64 (j : Int)) rfl (by kernel_rfl) (by kernel_rfl) (by kernel_rfl) (fun _ _ _ h => h) (Or.inl ⟨by rfl, ?_⟩) HS ?_
                · intro w' _
                  go_simp
                simp only [Act.put, List.getElem_toArray, List.getElem_cons_zero, List.getElem_cons_succ, List.setIfInBounds_toArray, List.set_cons_zero, List.set_cons_succ]
                refine wpAnyH_take (i := 9) (v := .pointer (some ⟨g, off + j * 3, none⟩)) rfl (by kernel_rfl) (by kernel_rfl) (by kernel_rfl) (fun _ _ _ h => h) (Or.inl ⟨by rfl, ?_⟩) HS ?_
                · intro w' _
                  go_simp
                simp only [Act.put, List.getElem_toArray, List.getElem_cons_zero, List.getElem_cons_succ, List.setIfInBounds_toArray, List.set_cons_zero, List.set_cons_succ]
                refine wpAnyH_take (i := 10) (v := .pointer (some ⟨g, off + j * 3 + 1, none⟩)) rfl (by kernel_rfl) (by kernel_rfl) (by kernel_rfl) (fun _ _ _ h => h) (Or.inl ⟨by rfl, ?_⟩) HS ?_
                · intro w' _
                  go_simp
                simp only [Act.put, List.getElem_toArray, List.getElem_cons_zero, List.getElem_cons_succ, List.setIfInBounds_toArray, List.set_cons_zero, List.set_cons_succ]
                refine wpAnyH_take (i := 11) (v := .int .i64 y) rfl (by kernel_rfl) (by kernel_rfl) (by kernel_rfl) (fun _ _ _ h => h) (Or.inl ⟨by rfl, ?_⟩) HS ?_
                · intro w' hS
                  obtain ⟨s0, s1, s2⟩ := hS
                  go_simp
                simp only [Act.put, List.getElem_toArray, List.getElem_cons_zero, List.getElem_cons_succ, List.setIfInBounds_toArray, List.set_cons_zero, List.set_cons_succ]
                refine wpAnyH_take (i := 12) (v := .int .u8 y) rfl (by kernel_rfl) (by kernel_rfl) (by kernel_rfl) (fun _ _ _ h => h) (Or.inl ⟨by rfl, ?_⟩) HS ?_
                · intro w' _
                  go_simp
                simp only [Act.put, List.getElem_toArray, List.getElem_cons_zero, List.getElem_cons_succ, List.setIfInBounds_toArray, List.set_cons_zero, List.set_cons_succ]
                refine wpAnyH_take (i := 13) (v := .slice (some ⟨g, off, none⟩) n cap) rfl (by kernel_rfl) (by kernel_rfl) (by kernel_rfl) (fun _ _ _ h => h) (Or.inl ⟨by rfl, ?_⟩) HS ?_
                · intro w' _
                  go_simp
                simp only [Act.put, List.getElem_toArray, List.getElem_cons_zero, List.getElem_cons_succ, List.setIfInBounds_toArray, List.set_cons_zero, List.set_cons_succ]
                refine wpAnyH_take (i := 14) (v := .int .i64 (j : Int)) rfl (by kernel_rfl) (by kernel_rfl) (by kernel_rfl) (fun _ _ _ h => h) (Or.inl ⟨by rfl, ?_⟩) HS ?_
                · intro w' _
                  go_simp
                simp only [Act.put, List.getElem_toArray, List.getElem_cons_zero, List.getElem_cons_succ, List.setIfInBounds_toArray, List.set_cons_zero, List.set_cons_succ]
                refine wpAnyH_take (i := 15) (v := .pointer (some ⟨g, off + j * 3, none⟩)) rfl (by kernel_rfl) (by kernel_rfl) (by kernel_rfl) (fun _ _ _ h => h) (Or.inl ⟨by rfl, ?_⟩) HS ?_
                · intro w' _
                  go_simp
                simp only [Act.put, List.getElem_toArray, List.getElem_cons_zero, List.getElem_cons_succ, List.setIfInBounds_toArray, List.set_cons_zero, List.set_cons_succ]
                refine wpAnyH_take (i := 16) (v := .pointer (some ⟨g, off + j * 3 + 2, none⟩)) rfl (by kernel_rfl) (by kernel_rfl) (by kernel_rfl) (fun _ _ _ h => h) (Or.inl ⟨by rfl, ?_⟩) HS ?_
                · intro w' _
                  go_simp
                simp only [Act.put, List.getElem_toArray, List.getElem_cons_zero, List.getElem_cons_succ, List.setIfInBounds_toArray, List.set_cons_zero, List.set_cons_succ]
                refine wpAnyH_take (i := 17) (v := .int .i64 z) rfl (by kernel_rfl) (by kernel_rfl) (by kernel_rfl) (fun _ _ _ h => h) (Or.inl ⟨by rfl, ?_⟩) HS ?_
                · intro w' hS
                  obtain ⟨s0, s1, s2⟩ := hS
                  go_simp
                simp only [Act.put, List.getElem_toArray, List.getElem_cons_zero, List.getElem_cons_succ, List.setIfInBounds_toArray, List.set_cons_zero, List.set_cons_succ]
                refine wpAnyH_take (i := 18) (v := .int .u8 z) rfl (by kernel_rfl) (by kernel_rfl) (by kernel_rfl) (fun _ _ _ h => h) (Or.inl ⟨by rfl, ?_⟩) HS ?_
                · intro w' _
                  go_simp
                simp only [Act.put, List.getElem_toArray, List.getElem_cons_zero, List.getElem_cons_succ, List.setIfInBounds_toArray, List.set_cons_zero, List.set_cons_succ]
                refine wpAnyH_ready (rs := [19]) (by kernel_rfl) (by simp) ?_
                refine AllReadyH.cons rfl (fun K hK => ?_) AllReadyH.nil
                refine if_wanted (wanted_none rfl) ?_
                simp only [List.getElem_toArray, List.getElem_cons_zero, List.getElem_cons_succ]
                go_simp
                refine hK.out _ _ ⟨(grow_cell _ (by exact lg) _).trans c0, (grow_cell _ (by exact lg) _).trans c1, (grow_cell _ (by exact lg) _).trans c2⟩ (fun HS2 => ?_)
                clear hK K
                refine wpAnyH_ready (rs := [20]) (by kernel_rfl) (by simp) ?_
                refine AllReadyH.cons rfl (fun K hK => ?_) AllReadyH.nil
                refine if_wanted (wanted_none rfl) ?_
                simp only [List.getElem_toArray, List.getElem_cons_zero, List.getElem_cons_succ]
                obtain ⟨i0, hi0, hz0, hz1, hz2⟩ := info_parts rgb_info8
                refine wp_append_lies _ (.tmp 42) (.tmp 61) 22 rfl w1.heap.size 5 i0 _ 1 1 Try.underlying22 hi0 hz0 hz1 hz2 rfl (by omega) u4 (3 * j) (t8 (colN F j)) (by rfl) (by exact World.ownsRow.alloc HB.out.1 _) ⟨w5.drew.heap.size, 0, none⟩ 3 3 (t8 [x, y, z]) (by rfl) rfl (by exact World.news_of_block (heap_alloc_new w5.drew _)) (t8_one _) (by omega) (by unfold maxLen; have := H1.out; omega) (by have := H1.out; omega) (by have := HB.out.2.2.size; show w1.heap.size ≤ (World.alloc w5.drew _).heap.size; simp; omega) _ rfl ?_
                intro g' cap' w6 y1 y2 y3 y4
                have HN := hid_of (HNY.out w6 _ y1 _ y2)
                have hlen : 3 * j + 3 = 3 * j + 3 := rfl
                clear y1 y2 y3 y4 HNY hlen
                have d0 := (HN.out.2.2.cell (p := ⟨g, off + j * 3, none⟩) hg).trans q0
                have d1 := (HN.out.2.2.cell (p := ⟨g, off + j * 3 + 1, none⟩) hg).trans q1
                have d2 := (HN.out.2.2.cell (p := ⟨g, off + j * 3 + 2, none⟩) hg).trans q2
                refine hK.out _ _ ⟨d0, d1, d2⟩ (fun HS3 => ?_)
                clear hK K d0 d1 d2
                refine wpAnyH_take (i := 21) (v := .slice (some ⟨g', 0, none⟩) (3 * j + 3) cap') rfl (by kernel_rfl) (by kernel_rfl) (by kernel_rfl) (fun _ _ _ h => h) (Or.inl ⟨by rfl, ?_⟩) HS3 ?_
                · intro w' _
                  go_simp
                simp only [Act.put, List.getElem_toArray, List.getElem_cons_zero, List.getElem_cons_succ, List.setIfInBounds_toArray, List.set_cons_zero, List.set_cons_succ]
                refine wpAnyH_done (by kernel_rfl) ?_ _
                go_wp2_with fail
                go_roundw
                case rel => exact ⟨j + 1, by omega, by go_num, HN⟩
                case measure => simp [intOf]; omega
              · rw [decide_eq_false hz] at b2
                have HX := hid_of (no fun k => hz k.2.2)
                have HB2 := hid_of HB.out.2.2
                clear no HNX HJ hx hy hz HB q0 q1 q2
                go_wp2_with fail
                refine (b0 _).mono ?_
                rintro e w5 ⟨rfl, rfl⟩
                go_wp2_with fail
                refine (b1 _).mono ?_
                rintro e w5 ⟨rfl, rfl⟩
                go_wp2_with fail
                refine (b2 _).mono ?_
                rintro e w5 ⟨rfl, rfl⟩
                go_wp2_with fail
                exact bodyPost_ret (v := .tuple #[.string ⟨#[]⟩, .bool false]) (by simp [results, Try.results28, go_sem]) rfl ⟨.inr ⟨HX.out, rfl⟩, HB2.out⟩
            · rw [decide_eq_false hy] at b1
              have HX := hid_of (no fun k => hy k.2.1)
              have HB2 := hid_of HB.out.2.2
              clear no HNX HJ hx hy HB q0 q1 q2
              go_wp2_with fail
              refine (b0 _).mono ?_
              rintro e w5 ⟨rfl, rfl⟩
              go_wp2_with fail
              refine (b1 _).mono ?_
              rintro e w5 ⟨rfl, rfl⟩
              go_wp2_with fail
              exact bodyPost_ret (v := .tuple #[.string ⟨#[]⟩, .bool false]) (by simp [results, Try.results28, go_sem]) rfl ⟨.inr ⟨HX.out, rfl⟩, HB2.out⟩
          · rw [decide_eq_false hx] at b0
            have HX := hid_of (no fun k => hx k.1)
            have HB2 := hid_of HB.out.2.2
            clear no HNX HJ hx HB q0 q1 q2
            go_wp2_with fail
            refine (b0 _).mono ?_
            rintro e w5 ⟨rfl, rfl⟩
            go_wp2_with fail
            exact bodyPost_ret (v := .tuple #[.string ⟨#[]⟩, .bool false]) (by simp [results, Try.results28, go_sem]) rfl ⟨.inr ⟨HX.out, rfl⟩, HB2.out⟩
      · obtain rfl : j = n := by omega
        have hcv := hS.out.text (by have := H1.out; omega)
        have HR : Hid (TableR F j) := ⟨by have := H1.out; omega, hS.out.2.1⟩
        have HB2 := hid_of hS.out.2.2
        clear hS
        go_wp2_with fail
        exact bodyPost_ret (v := .tuple #[.string (tableT F j), .bool true]) (by simp [results, Try.results28, go_sem]) rfl ⟨.inl ⟨HR.out, rfl⟩, HB2.out⟩
  · have hi := fun W => in_no (n : Int) 1 256 W h1
    have HX : Hid (¬ TableR F n) := fun h => h1 (by have := h.1; omega)
    clear h1
    go_enter Try.func28, Try.ntmps28
    go_wp2_with fail
    refine (hi _).mono ?_
    rintro e w1 ⟨rfl, rfl⟩
    go_wp2_with fail
    exact bodyPost_ret (v := .tuple #[.string ⟨#[]⟩, .bool false]) (by simp [results, Try.results28, go_sem]) rfl ⟨.inr ⟨HX.out, rfl⟩, Below.refl _ _⟩
set_option maxRecDepth 100000 in
set_option maxHeartbeats 6400000 in
theorem specReadTable (t : ByteArray) (w : World) (ht : t.size ≤ 1048576) :
    Calls Try.prog 31 #[.string t] w (RdTab t w) := by
  obtain ⟨r, hr⟩ : ∃ r, r = t.size % 3 := ⟨_, rfl⟩
  have hri : (t.size : Int).tmod 3 = (r : Int) := by
    rw [Int.tmod_eq_emod_of_nonneg (by omega)]
    omega
  obtain ⟨n, hn⟩ : ∃ n, n = t.size / 3 := ⟨_, rfl⟩
  have hni : (t.size : Int).tdiv 3 = (n : Int) := by
    rw [Int.tdiv_eq_ediv_of_nonneg (by omega)]
    omega
  have wn : IntKind.i64.wrap (n : Int) = (n : Int) := by rw [IntKind.wrap_i64]; omega
  by_cases h0 : r = 0
  · have d0 : ((r : Int) != 0) = false := by rw [h0]; rfl
    by_cases h1 : 1 ≤ (n : Int) ∧ (n : Int) ≤ 256
    · have hi := fun W => in_yes (n : Int) 1 256 W h1.1 h1.2
      have HI : Hid (TableIn t) := by show TableIn t; unfold TableIn; omega
      have HN : Hid (t.size = 3 * n ∧ n = t.size / 3) := by show _ ∧ _; omega
      have H0 := hid_of (RtI.empty w t)
      have HH := hid_of h1
      clear hr hn h0 h1
      go_enter Try.func31, Try.ntmps31
      go_wp2_with fail
      refine (hi _).mono ?_
      rintro e w1 ⟨rfl, rfl⟩
      go_wp2_with fail
      go_loopw [4, 5] (fun v i w' => ∃ j q : Nat, j ≤ n ∧ q = 3 * j ∧ i = .int .i64 q ∧ Hid (RtI w w' v t j)) (fun _ i _ => t.size - (intOf i).toNat)
      case atStart => exact ⟨0, 0, Nat.zero_le _, rfl, rfl, H0⟩
      case round =>
        clear H0 hi
        obtain ⟨j, q, hj, hq, rfl, hS⟩ := hrel
        have HQ := hid_of hq
        by_cases hlt : q < t.size
        · have hjn : j < n := by have := HN.out.1; omega
          have hz1 : q + 1 < t.size := by have := HN.out.1; omega
          have hz2 : q + 2 < t.size := by have := HN.out.1; omega
          have p1 : (q : Int) + 1 < (t.size : Int) := by omega
          have p2 : (q : Int) + 2 < (t.size : Int) := by omega
          have g1 : 0 ≤ (q : Int) + 1 := by omega
          have g2 : 0 ≤ (q : Int) + 2 := by omega
          have m1 : ¬ (q : Int) + 1 < 0 := by omega
          have m2 : ¬ (q : Int) + 2 < 0 := by omega
          have e1 : ((q : Int) + 1).toNat = q + 1 := by omega
          have e2 : ((q : Int) + 2).toNat = q + 2 := by omega
          obtain ⟨X, x0, xb, hX⟩ := tb_nat t q hlt
          obtain ⟨Y, y0, yb, hY⟩ := tb_nat t (q + 1) hz1
          obtain ⟨Z, z0, zb, hZ⟩ := tb_nat t (q + 2) hz2
          have HC : Hid (colA t j = ((X : Int), (Y : Int), (Z : Int))) := by
            show colA t j = _
            unfold colA
            rw [hX, hY, hZ, hq]
          have wX : IntKind.i64.wrap (X : Int) = (X : Int) := by rw [IntKind.wrap_i64]; omega
          have wY : IntKind.i64.wrap (Y : Int) = (Y : Int) := by rw [IntKind.wrap_i64]; omega
          have wZ : IntKind.i64.wrap (Z : Int) = (Z : Int) := by rw [IntKind.wrap_i64]; omega
          have wq1 : IntKind.i64.wrap ((q : Int) + 1) = (q : Int) + 1 := by rw [IntKind.wrap_i64]; omega
          have wq2 : IntKind.i64.wrap ((q : Int) + 2) = (q : Int) + 2 := by rw [IntKind.wrap_i64]; omega
          clear hX hY hZ hq
          go_wp2_with fail
          refine wp_region_held (S := fun _ => True) (by kernel_rfl) ?_
          show wpAnyH _ _ _ _ _ _ _ _ wr.drew
          refine wpAnyH_take (i := 0) (v := u4) rfl (by kernel_rfl) (by kernel_rfl) (by kernel_rfl) (fun _ _ _ h => h) (Or.inl ⟨by rfl, ?_⟩) trivial ?_
          · intro w' _
            go_simp
          simp only [Act.put, List.getElem_toArray, List.getElem_cons_zero, List.setIfInBounds_toArray, List.set_cons_zero, List.set_cons_succ]
          refine wpAnyH_take (i := 1) (v := .string t) rfl (by kernel_rfl) (by kernel_rfl) (by kernel_rfl) (fun _ _ _ h => h) (Or.inl ⟨by rfl, ?_⟩) trivial ?_
          · intro w' _
            go_simp
          simp only [Act.put, List.getElem_toArray, List.getElem_cons_zero, List.getElem_cons_succ, List.setIfInBounds_toArray, List.set_cons_zero, List.set_cons_succ]
          refine wpAnyH_take (i := 2) (v := .int .i64 (q : Int)) rfl (by kernel_rfl) (by kernel_rfl) (by kernel_rfl) (fun _ _ _ h => h) (Or.inl ⟨by rfl, ?_⟩) trivial ?_
          · intro w' _
            go_simp
          simp only [Act.put, List.getElem_toArray, List.getElem_cons_zero, List.getElem_cons_succ, List.setIfInBounds_toArray, List.set_cons_zero, List.set_cons_succ]
          refine wpAnyH_take (i := 3) (v := .int .u8 (X : Int)) rfl (by kernel_rfl) (by kernel_rfl) (by kernel_rfl) (fun _ _ _ h => h) (Or.inl ⟨by rfl, ?_⟩) trivial ?_
          · intro w' _
            go_simp
          simp only [Act.put, List.getElem_toArray, List.getElem_cons_zero, List.getElem_cons_succ, List.setIfInBounds_toArray, List.set_cons_zero, List.set_cons_succ]
          refine wpAnyH_take (i := 4) (v := .int .i64 (X : Int)) rfl (by kernel_rfl) (by kernel_rfl) (by kernel_rfl) (fun _ _ _ h => h) (Or.inl ⟨by rfl, ?_⟩) trivial ?_
          · intro w' _
            go_simp
          simp only [Act.put, List.getElem_toArray, List.getElem_cons_zero, List.getElem_cons_succ, List.setIfInBounds_toArray, List.set_cons_zero, List.set_cons_succ]
          refine wpAnyH_take (i := 5) (v := .string t) rfl (by kernel_rfl) (by kernel_rfl) (by kernel_rfl) (fun _ _ _ h => h) (Or.inl ⟨by rfl, ?_⟩) trivial ?_
          · intro w' _
            go_simp
          simp only [Act.put, List.getElem_toArray, List.getElem_cons_zero, List.getElem_cons_succ, List.setIfInBounds_toArray, List.set_cons_zero, List.set_cons_succ]
          refine wpAnyH_take (i := 6) (v := .int .i64 (q : Int)) rfl (by kernel_rfl) (by kernel_rfl) (by kernel_rfl) (fun _ _ _ h => h) (Or.inl ⟨by rfl, ?_⟩) trivial ?_
          · intro w' _
            go_simp
          simp only [Act.put, List.getElem_toArray, List.getElem_cons_zero, List.getElem_cons_succ, List.setIfInBounds_toArray, List.set_cons_zero, List.set_cons_succ]
          refine wpAnyH_take (i := 7) (v := .int .i64 ((q : Int) + 1)) rfl (by kernel_rfl) (by kernel_rfl) (by kernel_rfl) (fun _ _ _ h => h) (Or.inl ⟨by rfl, ?_⟩) trivial ?_
          · intro w' _
            go_simp
          simp only [Act.put, List.getElem_toArray, List.getElem_cons_zero, List.getElem_cons_succ, List.setIfInBounds_toArray, List.set_cons_zero, List.set_cons_succ]
          refine wpAnyH_take (i := 8) (v := .int .u8 (Y : Int)) rfl (by kernel_rfl) (by kernel_rfl) (by kernel_rfl) (fun _ _ _ h => h) (Or.inl ⟨by rfl, ?_⟩) trivial ?_
          · intro w' _
            go_simp
          simp only [Act.put, List.getElem_toArray, List.getElem_cons_zero, List.getElem_cons_succ, List.setIfInBounds_toArray, List.set_cons_zero, List.set_cons_succ]
          refine wpAnyH_take (i := 9) (v := .int .i64 (Y : Int)) rfl (by kernel_rfl) (by kernel_rfl) (by kernel_rfl) (fun _ _ _ h => h) (Or.inl ⟨by rfl, ?_⟩) trivial ?_
          · intro w' _
            go_simp
          simp only [Act.put, List.getElem_toArray, List.getElem_cons_zero, List.getElem_cons_succ, List.setIfInBounds_toArray, List.set_cons_zero, List.set_cons_succ]
          refine wpAnyH_take (i := 10) (v := .string t) rfl (by kernel_rfl) (by kernel_rfl) (by kernel_rfl) (fun _ _ _ h => h) (Or.inl ⟨by rfl, ?_⟩) trivial ?_
          · intro w' _
            go_simp
          simp only [Act.put, List.getElem_toArray, List.getElem_cons_zero, List.getElem_cons_succ, List.setIfInBounds_toArray, List.set_cons_zero, List.set_cons_succ]
          refine wpAnyH_take (i := 11) (v := .int .i64 (q : Int)) rfl (by kernel_rfl) (by kernel_rfl) (by kernel_rfl) (fun _ _ _ h => h) (Or.inl ⟨by rfl, ?_⟩) trivial ?_
          · intro w' _
            go_simp
          simp only [Act.put, List.getElem_toArray, List.getElem_cons_zero, List.getElem_cons_succ, List.setIfInBounds_toArray, List.set_cons_zero, List.set_cons_succ]
          refine wpAnyH_take (i := 12) (v := .int .i64 ((q : Int) + 2)) rfl (by kernel_rfl) (by kernel_rfl) (by kernel_rfl) (fun _ _ _ h => h) (Or.inl ⟨by rfl, ?_⟩) trivial ?_
          · intro w' _
            go_simp
          simp only [Act.put, List.getElem_toArray, List.getElem_cons_zero, List.getElem_cons_succ, List.setIfInBounds_toArray, List.set_cons_zero, List.set_cons_succ]
          refine wpAnyH_take (i := 13) (v := .int .u8 (Z : Int)) rfl (by kernel_rfl) (by kernel_rfl) (by kernel_rfl) (fun _ _ _ h => h) (Or.inl ⟨by rfl, ?_⟩) trivial ?_
          · intro w' _
            go_simp
          simp only [Act.put, List.getElem_toArray, List.getElem_cons_zero, List.getElem_cons_succ, List.setIfInBounds_toArray, List.set_cons_zero, List.set_cons_succ]
          refine wpAnyH_take (i := 14) (v := .int .i64 (Z : Int)) rfl (by kernel_rfl) (by kernel_rfl) (by kernel_rfl) (fun _ _ _ h => h) (Or.inl ⟨by rfl, ?_⟩) trivial ?_
          · intro w' _
            go_simp
          simp only [Act.put, List.getElem_toArray, List.getElem_cons_zero, List.getElem_cons_succ, List.setIfInBounds_toArray, List.set_cons_zero, List.set_cons_succ]
          refine wpAnyH_take (i := 15) (v := .agg #[.int .i64 (X : Int), .int .i64 (Y : Int), .int .i64 (Z : Int)]) rfl (by kernel_rfl) (by kernel_rfl) (by kernel_rfl) (fun _ _ _ h => h) (Or.inl ⟨by rfl, ?_⟩) trivial ?_
          · intro w' _
            go_simp
          simp only [Act.put, List.getElem_toArray, List.getElem_cons_zero, List.getElem_cons_succ, List.setIfInBounds_toArray, List.set_cons_zero, List.set_cons_succ]
          refine wpAnyH_ready (rs := [16]) (by kernel_rfl) (by simp) ?_
          refine AllReadyH.cons rfl (fun K hK => ?_) AllReadyH.nil
          refine if_wanted (wanted_none rfl) ?_
          simp only [List.getElem_toArray, List.getElem_cons_zero, List.getElem_cons_succ]
          go_simp
          refine hK.out _ _ trivial (fun _ => ?_)
          clear hK K
          refine wpAnyH_ready (rs := [17]) (by kernel_rfl) (by simp) ?_
          refine AllReadyH.cons rfl (fun K hK => ?_) AllReadyH.nil
          refine if_wanted (wanted_none rfl) ?_
          simp only [List.getElem_toArray, List.getElem_cons_zero, List.getElem_cons_succ]
          obtain ⟨i0, hi0, hz0, hz1, hz2⟩ := info_parts info_rgb
          refine wp_append_lies _ (.tmp 25) (.tmp 41) 32 rfl w.heap.size 38 i0 _ 3 24 Try.underlying32 hi0 hz0 hz1 hz2 rfl (by omega) u4 j (rgbTcells (rgbsL t j)) (by rfl) (by exact World.ownsRow.alloc hS.out.1 _) ⟨wr.drew.heap.size, 0, none⟩ 1 1 (rgbTcells [((X : Int), (Y : Int), (Z : Int))]) (by rfl) rfl (by exact World.news_of_block (heap_alloc_new wr.drew _)) (rgbTcells_one _) (by omega) (by unfold maxLen; have := HH.out; omega) (by have := HH.out; omega) (by have := hS.out.2.size; show w.heap.size ≤ (World.alloc wr.drew _).heap.size; simp; omega) _ rfl ?_
          intro g' cap' w6 y1 y2 y3 y4
          rw [← HC.out] at y1
          have HNX := hid_of (hS.out.next y1 _ y2)
          clear y1 y2 y3 y4
          refine hK.out _ _ trivial (fun _ => ?_)
          clear hK K
          refine wpAnyH_take (i := 18) (v := .slice (some ⟨g', 0, none⟩) (j + 1) cap') rfl (by kernel_rfl) (by kernel_rfl) (by kernel_rfl) (fun _ _ _ h => h) (Or.inl ⟨by rfl, ?_⟩) trivial ?_
          · intro w' _
            go_simp
          simp only [Act.put, List.getElem_toArray, List.getElem_cons_zero, List.getElem_cons_succ, List.setIfInBounds_toArray, List.set_cons_zero, List.set_cons_succ]
          refine wpAnyH_done (by kernel_rfl) ?_ _
          go_wp2_with fail
          go_roundw
          case rel => exact ⟨j + 1, q + 3, by omega, by have := HQ.out; omega, by go_num, HNX⟩
          case measure => simp [intOf]; omega
        · obtain rfl : j = n := by have := HN.out.1; omega
          obtain ⟨a, c, rfl, hsl⟩ := hS.out.done
          have HSL := hid_of hsl
          have HB := hid_of hS.out.2
          have HE : Hid (∀ v : Value, v = .tuple #[.slice a j c, .bool true] → RdTab t w (.returned v) wr) := fun v hv => by
            subst hv
            refine ⟨.inl ⟨HI.out, a, c, ?_, ?_⟩, HB.out⟩
            · rw [← HN.out.2]
            · rw [← HN.out.2]; exact HSL.out
          clear hsl hS
          go_wp2_with fail
          exact bodyPost_ret (v := .tuple #[.slice a j c, .bool true]) (by simp [results, Try.results31, go_sem]) rfl (HE.out _ rfl)
    · have hi := fun W => in_no (n : Int) 1 256 W h1
      have HI : Hid (¬ TableIn t) := fun h => h1 (by unfold TableIn at h; omega)
      clear hr hn h0 h1
      go_enter Try.func31, Try.ntmps31
      go_wp2_with fail
      refine (hi _).mono ?_
      rintro e w1 ⟨rfl, rfl⟩
      go_wp2_with fail
      exact bodyPost_ret (v := .tuple #[.slice (some ⟨w.heap.size, 0, none⟩) 0 0, .bool false]) (by simp [results, Try.results31, go_sem]) rfl ⟨.inr ⟨HI.out, _, _, rfl⟩, bstart _ _⟩
  · have d0 : ((r : Int) != 0) = true := by simp only [bne_iff_ne, ne_eq]; omega
    have HI : Hid (¬ TableIn t) := fun h => h0 (by unfold TableIn at h; omega)
    clear hr hn h0
    go_enter Try.func31, Try.ntmps31
    go_wp2_with fail
    exact bodyPost_ret (v := .tuple #[.slice (some ⟨w.heap.size, 0, none⟩) 0 0, .bool false]) (by simp [results, Try.results31, go_sem]) rfl ⟨.inr ⟨HI.out, _, _, rfl⟩, bstart _ _⟩
end Go.Proofs.Ytcnlcbkgbcnloaa
