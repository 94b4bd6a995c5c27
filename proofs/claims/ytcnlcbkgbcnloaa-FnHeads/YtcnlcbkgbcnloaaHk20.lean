/-
  The walks of the program's tables. (Printed by tools/mktabimpl.py.)
-/
import Derived.Test.YtcnlcbkgbcnloaaRows
import Derived.Test.YtcnlcbkgbcnloaaHk01
import Derived.Test.YtcnlcbkgbcnloaaHk03
import Derived.Test.YtcnlcbkgbcnloaaHk06
import Derived.Test.YtcnlcbkgbcnloaaHk18
import Derived.Test.YtcnlcbkgbcnloaaHk14
import Derived.Test.YtcnlcbkgbcnloaaHk19
import Derived.Test.YtcnlcbkgbcnloaaHk17
import Derived.Test.YtcnlcbkgbcnloaaHk08
import Derived.WalkKit
import Derived.ProofKit
import Derived.WalkLawsBesides
import Derived.Deep.RegionHeld3
import Derived.Deep.AppendLies
import Derived.Below
import Derived.OwnWalk
import Derived.Lib.SmallJoins
namespace Go.Proofs.Ytcnlcbkgbcnloaa
open Go.RowKit Go.Joins HeadMath

theorem isTable_any (n : Int) (w : World) : Calls Try.prog 43 #[.int .i64 n] w fun e w' => e = .returned (.bool (decide (1 ≤ n ∧ n ≤ 256))) ∧ w' = w := by
  by_cases h1 : 1 ≤ n
  · have d1 : decide (1 ≤ n) = true := decide_eq_true h1
    have hh : decide (1 ≤ n ∧ n ≤ 256) = decide (n ≤ 256) := decide_eq_decide.mpr ⟨fun h => h.2, fun h => ⟨h1, h⟩⟩
    rw [hh]
    clear h1 hh
    generalize hb : decide (n ≤ 256) = b
    go_enter Try.func43, Try.ntmps43
    go_wp2_with fail
    go_ret
    exact ⟨rfl, rfl⟩
  · have d1 : decide (1 ≤ n) = false := decide_eq_false h1
    rw [decide_eq_false (fun h : 1 ≤ n ∧ n ≤ 256 => h1 h.1)]
    clear h1
    go_enter Try.func43, Try.ntmps43
    go_wp2_with fail
    go_ret
    exact ⟨rfl, rfl⟩
theorem numbers_any (x y z : Int) (w : World) : Calls Try.prog 45 #[.agg #[.int .i64 x, .int .i64 y, .int .i64 z]] w fun e w' => (∃ a, e = .returned (.slice a 3 3) ∧ Came w' a 3 (col3 (x, y, z))) ∧ Below w.heap.size w w' := by
  have HC : Hid (∀ W : World, Came (W.alloc (.cells #[.int .i64 x, .int .i64 y, .int .i64 z] 3)) (some ⟨W.heap.size, 0, none⟩) 3 (col3 (x, y, z))) := fun W => by
    refine .inr ⟨W.heap.size, 0, rfl, by simp, fun j hj => ?_⟩
    rw [Nat.zero_add, cell_of_block (heap_alloc_new W _) j]
    match j, hj with
    | 0, _ => rfl
    | 1, _ => rfl
    | 2, _ => rfl
    | k + 3, hk => omega
  go_enter Try.func45, Try.ntmps45
  go_wp2_with fail
  go_ret
  refine ⟨⟨_, rfl, ?_⟩, bal (bstart _ _) _⟩
  have h := HC.out (w.alloc (.cells #[.int .i64 x, .int .i64 y, .int .i64 z] 38))
  simpa using h
theorem rgb_box {w : World} {b : Nat} {x y z : Int} (h : w.heap[b]? = some (.cells #[.int .i64 x, .int .i64 y, .int .i64 z] 38 (0, 0))) : w.cell? ⟨b, 0, none⟩ = some (.int .i64 x) ∧ w.cell? ⟨b, 1, none⟩ = some (.int .i64 y) ∧ w.cell? ⟨b, 2, none⟩ = some (.int .i64 z) :=
  ⟨(cell_of_block h 0).trans rfl, (cell_of_block h 1).trans rfl, (cell_of_block h 2).trans rfl⟩
set_option maxRecDepth 100000 in
set_option maxHeartbeats 6400000 in
theorem implTableText (a : Option Addr) (n cap : Nat) (F : Nat → Rgb3) (w : World) (hC : RgbCame w a n F) (hn : n ≤ 1048576) :
    Calls Try.prog 15 #[.slice a n cap] w (TabPost F n w) := by
  have hi := isTable_any (n : Int)
  by_cases h1 : 1 ≤ (n : Int) ∧ (n : Int) ≤ 256
  · rw [decide_eq_true h1] at hi
    have HC := hid_of hC
    have H1 := hid_of h1
    have H0 := hid_of (TbB.start0 w F)
    have k8 : ((8 : Nat) : Int) = 8 := rfl
    clear hC
    go_enter Try.func15, Try.ntmps15
    go_wp2_with fail
    refine (hi _).mono ?_
    rintro e w1 ⟨rfl, rfl⟩
    go_wp2_with fail
    go_loopw [4, 13] (fun v i w' => ∃ j : Nat, j ≤ n ∧ i = .int .i64 j ∧ Hid (TbB w1 w' v F j)) (fun _ i _ => n - (intOf i).toNat)
    case atStart => exact ⟨0, Nat.zero_le _, rfl, H0⟩
    case round =>
      clear H0 hi
      obtain ⟨j, hj, rfl, hS⟩ := hrel
      by_cases hlt : j < n
      · rcases HC.out with h0 | ⟨g, off, rfl, hg, hc⟩
        · omega
        · obtain ⟨q0, q1, q2⟩ := hc j hlt
          have c0 := (hS.out.2.2.cell (p := ⟨g, off + j * 3, none⟩) hg).trans q0
          have c1 := (hS.out.2.2.cell (p := ⟨g, off + j * 3 + 1, none⟩) hg).trans q1
          have c2 := (hS.out.2.2.cell (p := ⟨g, off + j * 3 + 2, none⟩) hg).trans q2
          have lg : g < wr.heap.size := Nat.lt_of_lt_of_le hg hS.out.2.2.size
          obtain ⟨⟨x, y, z⟩, hFj⟩ : ∃ c : Rgb3, F j = c := ⟨_, rfl⟩
          have HF := hid_of hFj
          rw [hFj] at c0 c1 c2
          have hnum := numbers_any x y z
          have HX : Hid ((wr.alloc (.cells #[.int .i64 x, .int .i64 y, .int .i64 z] 38)).heap[wr.heap.size]? = some (.cells #[.int .i64 x, .int .i64 y, .int .i64 z] 38 (0, 0))) := heap_alloc_new wr _
          have HS1 : Hid (TbB w1 (wr.alloc (.cells #[.int .i64 x, .int .i64 y, .int .i64 z] 38)) u4 F j) := hS.out.called (bstart _ _)
          clear hc q0 q1 q2 hFj hS
          go_wp2_with fail
          clear c0 c1 c2 lg
          generalize wr.alloc (.cells #[.int .i64 x, .int .i64 y, .int .i64 z] 38) = W2 at HX HS1 ⊢
          generalize wr.heap.size = X at HX ⊢
          refine (hnum W2).mono ?_
          rintro e w3 ⟨⟨a3, rfl, hC3⟩, hB3⟩
          have HX3 := hid_of ((hB3.block _ (block_lt HX.out)).trans HX.out)
          have HS3 := hid_of (HS1.out.called hB3)
          have HC3 := hid_of hC3
          clear hB3 HX HS1 hC3 hnum
          have hsm := samples_any a3 3 3 8 (col3 (x, y, z)) w3 HC3.out (by omega) (by omega)
          rw [k8] at hsm
          go_wp2_with fail
          refine hsm.mono ?_
          rintro e w4 ⟨b, rfl, hb, rfl⟩
          have hb2 : b = true ↔ RgbR (F j) := by
            rw [hb, HF.out]
            exact col3_fit (x, y, z)
          obtain ⟨k0, k1, k2⟩ := rgb_box HX3.out
          have lx := block_lt HX3.out
          clear hsm hb HC3
          cases b
          · have HN : Hid (¬ TableR F n) := fun k => absurd (hb2.mpr (k.2 j hlt)) (by simp)
            have HB := hid_of HS3.out.2.2
            clear hb2 HS3
            go_wp2_with fail
            exact bodyPost_ret (v := .tuple #[.string ⟨#[]⟩, .bool false]) (by simp [results, Try.results15, go_sem]) rfl ⟨.inr ⟨HN.out, rfl⟩, HB.out⟩
          · have hcr : RgbR (F j) := hb2.mp rfl
            have hcx : RgbR (x, y, z) := by rw [← HF.out]; exact hcr
            obtain ⟨r0, r1, r2⟩ := hcx
            have e0 : IntKind.u8.wrap x = x := by show x % 256 = x; simp only at r0; omega
            have e1 : IntKind.u8.wrap y = y := by show y % 256 = y; simp only at r1; omega
            have e2 : IntKind.u8.wrap z = z := by show z % 256 = z; simp only at r2; omega
            have HCR := hid_of hcr
            have HNX : Hid (∀ w2 v', w2.ownsRow w1.heap.size 5 1 v' (3 * j + 3) (t8 (colN F j) ++ t8 [x, y, z]) → ∀ o, (w4.alloc o).grownBy w2 u4.ownBlock → TbB w1 w2 v' F (j + 1)) := fun w2 v' k o hg => by
              refine TbB.next (HS3.out.called (bstart _ o)) HCR.out ?_ hg
              rw [HF.out]
              exact k
            clear hb2 hcr r0 r1 r2 HCR
            go_wp2_with (at_builtin; refine bytes_three (S := w1.heap.size) (k := 3 * j) (xs := colN F j) rfl _ _ rfl rfl (World.ownsRow.alloc HS3.out.1 _) w4.heap.size 3 x y z rfl (heap_alloc_new w4 _) (by have := H1.out; omega) (by have := HS3.out.2.2.size; simp; omega) ?_)
            intro v' w5 hown hgr
            have HN := hid_of (HNX.out w5 v' hown _ hgr)
            clear hown hgr HNX HS3
            go_wp2_with fail
            go_roundw
            case rel => exact ⟨j + 1, by omega, by go_num, HN⟩
            case measure => simp [intOf]; omega
      · obtain rfl : j = n := by omega
        have hcv := hS.out.text (by have := H1.out; omega)
        have HR : Hid (TableR F j) := ⟨by have := H1.out; omega, hS.out.2.1⟩
        have HB2 := hid_of hS.out.2.2
        clear hS
        go_wp2_with fail
        exact bodyPost_ret (v := .tuple #[.string (tableT F j), .bool true]) (by simp [results, Try.results15, go_sem]) rfl ⟨.inl ⟨HR.out, rfl⟩, HB2.out⟩
  · rw [decide_eq_false h1] at hi
    have HX : Hid (¬ TableR F n) := fun h => h1 (by have := h.1; omega)
    clear h1
    go_enter Try.func15, Try.ntmps15
    go_wp2_with fail
    refine (hi _).mono ?_
    rintro e w1 ⟨rfl, rfl⟩
    go_wp2_with fail
    exact bodyPost_ret (v := .tuple #[.string ⟨#[]⟩, .bool false]) (by simp [results, Try.results15, go_sem]) rfl ⟨.inr ⟨HX.out, rfl⟩, Below.refl _ _⟩
set_option maxRecDepth 100000 in
set_option maxHeartbeats 6400000 in
theorem implReadTable (t : ByteArray) (w : World) (ht : t.size ≤ 1048576) :
    Calls Try.prog 16 #[.string t] w (RdTab t w) := by
  obtain ⟨r, hr⟩ : ∃ r, r = t.size % 3 := ⟨_, rfl⟩
  have hri : (t.size : Int).tmod 3 = (r : Int) := by
    rw [Int.tmod_eq_emod_of_nonneg (by omega)]
    omega
  obtain ⟨n, hn⟩ : ∃ n, n = t.size / 3 := ⟨_, rfl⟩
  have hni : (t.size : Int).tdiv 3 = (n : Int) := by
    rw [Int.tdiv_eq_ediv_of_nonneg (by omega)]
    omega
  have wn : IntKind.i64.wrap (n : Int) = (n : Int) := by rw [IntKind.wrap_i64]; omega
  have hi := isTable_any (n : Int)
  by_cases h0 : r = 0
  · have d0 : ((r : Int) != 0) = false := by rw [h0]; rfl
    by_cases h1 : 1 ≤ (n : Int) ∧ (n : Int) ≤ 256
    · rw [decide_eq_true h1] at hi
      have HI : Hid (TableIn t) := by show TableIn t; unfold TableIn; omega
      have HN : Hid (t.size = 3 * n ∧ n = t.size / 3) := by show _ ∧ _; omega
      have hmk := make_rgbs w n (by omega)
      have H0 : Hid (RgbSt w (w.alloc (.cells (madeCells #[.int .i64 0, .int .i64 0, .int .i64 0] (n * 3)) 38)) n (colA t) 0) := ⟨bstart _ _, _, heap_alloc_new w _, by rw [size_madeCells], fun i hi => absurd hi (Nat.not_lt_zero i)⟩
      generalize w.alloc (.cells (madeCells #[.int .i64 0, .int .i64 0, .int .i64 0] (n * 3)) 38) = w0 at hmk H0
      have HH := hid_of h1
      clear hr hn h0 h1
      go_enter Try.func16, Try.ntmps16
      go_wp2_with fail
      refine (hi _).mono ?_
      rintro e w1 ⟨rfl, rfl⟩
      go_wp2_with fail
      go_loopw [24] (fun i w' => ∃ j : Nat, j ≤ n ∧ i = .int .i64 j ∧ Hid (RgbSt w1 w' n (colA t) j)) (fun i _ => n - (intOf i).toNat)
      case atStart => exact ⟨0, Nat.zero_le _, rfl, H0⟩
      case round =>
        clear H0 hi hmk
        obtain ⟨j, hj, rfl, hS⟩ := hrel
        by_cases hlt : j < n
        · obtain ⟨q, hq⟩ : ∃ q, q = 3 * j := ⟨_, rfl⟩
          have hqi : (j : Int) * 3 = (q : Int) := by omega
          have hz0 : q < t.size := by have := HN.out.1; omega
          have hz1 : q + 1 < t.size := by have := HN.out.1; omega
          have hz2 : q + 2 < t.size := by have := HN.out.1; omega
          have p0 : (q : Int) < (t.size : Int) := by omega
          have p1 : (q : Int) + 1 < (t.size : Int) := by omega
          have p2 : (q : Int) + 2 < (t.size : Int) := by omega
          have g1 : 0 ≤ (q : Int) + 1 := by omega
          have g2 : 0 ≤ (q : Int) + 2 := by omega
          have m1 : ¬ (q : Int) + 1 < 0 := by omega
          have m2 : ¬ (q : Int) + 2 < 0 := by omega
          have e1 : ((q : Int) + 1).toNat = q + 1 := by omega
          have e2 : ((q : Int) + 2).toNat = q + 2 := by omega
          obtain ⟨X, x0, xb, hX⟩ := tb_nat t q hz0
          obtain ⟨Y, y0, yb, hY⟩ := tb_nat t (q + 1) hz1
          obtain ⟨Z, z0, zb, hZ⟩ := tb_nat t (q + 2) hz2
          have wX : IntKind.i64.wrap (X : Int) = (X : Int) := by rw [IntKind.wrap_i64]; omega
          have wY : IntKind.i64.wrap (Y : Int) = (Y : Int) := by rw [IntKind.wrap_i64]; omega
          have wZ : IntKind.i64.wrap (Z : Int) = (Z : Int) := by rw [IntKind.wrap_i64]; omega
          have wq0 : IntKind.i64.wrap (q : Int) = (q : Int) := by rw [IntKind.wrap_i64]; omega
          have wq1 : IntKind.i64.wrap ((q : Int) + 1) = (q : Int) + 1 := by rw [IntKind.wrap_i64]; omega
          have wq2 : IntKind.i64.wrap ((q : Int) + 2) = (q : Int) + 2 := by rw [IntKind.wrap_i64]; omega
          obtain ⟨r1, r2, r3⟩ := rgb_cell hS.out
          obtain ⟨v0, s0⟩ := r3 (j * 3) (by omega)
          obtain ⟨v1, s1⟩ := r3 (j * 3 + 1) (by omega)
          obtain ⟨v2, s2⟩ := r3 (j * 3 + 2) (by omega)
          have HS2 : Hid (RgbSt w1 (((wr.setCell ⟨w1.heap.size, j * 3, none⟩ (.int .i64 (X : Int))).setCell ⟨w1.heap.size, j * 3 + 1, none⟩ (.int .i64 (Y : Int))).setCell ⟨w1.heap.size, j * 3 + 2, none⟩ (.int .i64 (Z : Int))).drew n (colA t) (j + 1)) := by
            have h := rgb_next hS.out hlt
            have hc : colA t j = ((X : Int), (Y : Int), (Z : Int)) := by
              unfold colA
              rw [hX, hY, hZ, hq]
            rw [hc] at h
            exact h.called (bdraws (Below.refl _ _) 1)
          clear r3 hX hY hZ hq hS
          go_wp2_with fail
          refine wp_region_held (S := fun _ => True) (by kernel_rfl) ?_
          show wpAnyH _ _ _ _ _ _ _ _ wr.drew
          refine wpAnyH_take (i := 0) (v := .slice (some ⟨w1.heap.size, 0, none⟩) n n) rfl (by kernel_rfl) (by kernel_rfl) (by kernel_rfl) (fun _ _ _ h => h) (Or.inl ⟨by rfl, ?_⟩) trivial ?_
          · intro w' _
            go_simp
          simp only [Act.put, List.getElem_toArray, List.getElem_cons_zero, List.setIfInBounds_toArray, List.set_cons_zero, List.set_cons_succ]
          refine wpAnyH_take (i := 1) (v := .int .i64 (j : Int)) rfl (by kernel_rfl) (by kernel_rfl) (by kernel_rfl) (fun _ _ _ h => h) (Or.inl ⟨by rfl, ?_⟩) trivial ?_
          · intro w' _
            go_simp
          simp only [Act.put, List.getElem_toArray, List.getElem_cons_zero, List.getElem_cons_succ, List.setIfInBounds_toArray, List.set_cons_zero, List.set_cons_succ]
          refine wpAnyH_take (i := 2) (v := .string t) rfl (by kernel_rfl) (by kernel_rfl) (by kernel_rfl) (fun _ _ _ h => h) (Or.inl ⟨by rfl, ?_⟩) trivial ?_
          · intro w' _
            go_simp
          simp only [Act.put, List.getElem_toArray, List.getElem_cons_zero, List.getElem_cons_succ, List.setIfInBounds_toArray, List.set_cons_zero, List.set_cons_succ]
          refine wpAnyH_take (i := 3) (v := .int .i64 (q : Int)) rfl (by kernel_rfl) (by kernel_rfl) (by kernel_rfl) (fun _ _ _ h => h) (Or.inl ⟨by rfl, ?_⟩) trivial ?_
          · intro w' _
            go_simp
          simp only [Act.put, List.getElem_toArray, List.getElem_cons_zero, List.getElem_cons_succ, List.setIfInBounds_toArray, List.set_cons_zero, List.set_cons_succ]
          refine wpAnyH_take (i := 4) (v := .int .u8 (X : Int)) rfl (by kernel_rfl) (by kernel_rfl) (by kernel_rfl) (fun _ _ _ h => h) (Or.inl ⟨by rfl, ?_⟩) trivial ?_
          · intro w' _
            go_simp
          simp only [Act.put, List.getElem_toArray, List.getElem_cons_zero, List.getElem_cons_succ, List.setIfInBounds_toArray, List.set_cons_zero, List.set_cons_succ]
          refine wpAnyH_take (i := 5) (v := .int .i64 (X : Int)) rfl (by kernel_rfl) (by kernel_rfl) (by kernel_rfl) (fun _ _ _ h => h) (Or.inl ⟨by rfl, ?_⟩) trivial ?_
          · intro w' _
            go_simp
          simp only [Act.put, List.getElem_toArray, List.getElem_cons_zero, List.getElem_cons_succ, List.setIfInBounds_toArray, List.set_cons_zero, List.set_cons_succ]
          refine wpAnyH_take (i := 6) (v := .string t) rfl (by kernel_rfl) (by kernel_rfl) (by kernel_rfl) (fun _ _ _ h => h) (Or.inl ⟨by rfl, ?_⟩) trivial ?_
          · intro w' _
            go_simp
          simp only [Act.put, List.getElem_toArray, List.getElem_cons_zero, List.getElem_cons_succ, List.setIfInBounds_toArray, List.set_cons_zero, List.set_cons_succ]
          refine wpAnyH_take (i := 7) (v := .int .i64 (q : Int)) rfl (by kernel_rfl) (by kernel_rfl) (by kernel_rfl) (fun _ _ _ h => h) (Or.inl ⟨by rfl, ?_⟩) trivial ?_
          · intro w' _
            go_simp
          simp only [Act.put, List.getElem_toArray, List.getElem_cons_zero, List.getElem_cons_succ, List.setIfInBounds_toArray, List.set_cons_zero, List.set_cons_succ]
          refine wpAnyH_take (i := 8) (v := .int .i64 ((q : Int) + 1)) rfl (by kernel_rfl) (by kernel_rfl) (by kernel_rfl) (fun _ _ _ h => h) (Or.inl ⟨by rfl, ?_⟩) trivial ?_
          · intro w' _
            go_simp
          simp only [Act.put, List.getElem_toArray, List.getElem_cons_zero, List.getElem_cons_succ, List.setIfInBounds_toArray, List.set_cons_zero, List.set_cons_succ]
          refine wpAnyH_take (i := 9) (v := .int .u8 (Y : Int)) rfl (by kernel_rfl) (by kernel_rfl) (by kernel_rfl) (fun _ _ _ h => h) (Or.inl ⟨by rfl, ?_⟩) trivial ?_
          · intro w' _
            go_simp
          simp only [Act.put, List.getElem_toArray, List.getElem_cons_zero, List.getElem_cons_succ, List.setIfInBounds_toArray, List.set_cons_zero, List.set_cons_succ]
          refine wpAnyH_take (i := 10) (v := .int .i64 (Y : Int)) rfl (by kernel_rfl) (by kernel_rfl) (by kernel_rfl) (fun _ _ _ h => h) (Or.inl ⟨by rfl, ?_⟩) trivial ?_
          · intro w' _
            go_simp
          simp only [Act.put, List.getElem_toArray, List.getElem_cons_zero, List.getElem_cons_succ, List.setIfInBounds_toArray, List.set_cons_zero, List.set_cons_succ]
          refine wpAnyH_take (i := 11) (v := .string t) rfl (by kernel_rfl) (by kernel_rfl) (by kernel_rfl) (fun _ _ _ h => h) (Or.inl ⟨by rfl, ?_⟩) trivial ?_
          · intro w' _
            go_simp
          simp only [Act.put, List.getElem_toArray, List.getElem_cons_zero, List.getElem_cons_succ, List.setIfInBounds_toArray, List.set_cons_zero, List.set_cons_succ]
          refine wpAnyH_take (i := 12) (v := .int .i64 (q : Int)) rfl (by kernel_rfl) (by kernel_rfl) (by kernel_rfl) (fun _ _ _ h => h) (Or.inl ⟨by rfl, ?_⟩) trivial ?_
          · intro w' _
            go_simp
          simp only [Act.put, List.getElem_toArray, List.getElem_cons_zero, List.getElem_cons_succ, List.setIfInBounds_toArray, List.set_cons_zero, List.set_cons_succ]
          refine wpAnyH_take (i := 13) (v := .int .i64 ((q : Int) + 2)) rfl (by kernel_rfl) (by kernel_rfl) (by kernel_rfl) (fun _ _ _ h => h) (Or.inl ⟨by rfl, ?_⟩) trivial ?_
          · intro w' _
            go_simp
          simp only [Act.put, List.getElem_toArray, List.getElem_cons_zero, List.getElem_cons_succ, List.setIfInBounds_toArray, List.set_cons_zero, List.set_cons_succ]
          refine wpAnyH_take (i := 14) (v := .int .u8 (Z : Int)) rfl (by kernel_rfl) (by kernel_rfl) (by kernel_rfl) (fun _ _ _ h => h) (Or.inl ⟨by rfl, ?_⟩) trivial ?_
          · intro w' _
            go_simp
          simp only [Act.put, List.getElem_toArray, List.getElem_cons_zero, List.getElem_cons_succ, List.setIfInBounds_toArray, List.set_cons_zero, List.set_cons_succ]
          refine wpAnyH_take (i := 15) (v := .int .i64 (Z : Int)) rfl (by kernel_rfl) (by kernel_rfl) (by kernel_rfl) (fun _ _ _ h => h) (Or.inl ⟨by rfl, ?_⟩) trivial ?_
          · intro w' _
            go_simp
          simp only [Act.put, List.getElem_toArray, List.getElem_cons_zero, List.getElem_cons_succ, List.setIfInBounds_toArray, List.set_cons_zero, List.set_cons_succ]
          refine wpAnyH_take (i := 16) (v := .agg #[.int .i64 (X : Int), .int .i64 (Y : Int), .int .i64 (Z : Int)]) rfl (by kernel_rfl) (by kernel_rfl) (by kernel_rfl) (fun _ _ _ h => h) (Or.inl ⟨by rfl, ?_⟩) trivial ?_
          · intro w' _
            go_simp
          simp only [Act.put, List.getElem_toArray, List.getElem_cons_zero, List.getElem_cons_succ, List.setIfInBounds_toArray, List.set_cons_zero, List.set_cons_succ]
          refine wpAnyH_take (i := 17) (v := .pointer (some ⟨w1.heap.size, j * 3, none⟩)) rfl (by kernel_rfl) (by kernel_rfl) (by kernel_rfl) (fun _ _ _ h => h) (Or.inl ⟨by rfl, ?_⟩) trivial ?_
          · intro w' _
            go_simp
          simp only [Act.put, List.getElem_toArray, List.getElem_cons_zero, List.getElem_cons_succ, List.setIfInBounds_toArray, List.set_cons_zero, List.set_cons_succ]
          refine wpAnyH_ready (rs := [18]) (by kernel_rfl) (by simp) ?_
          refine AllReadyH.cons rfl (fun K hK => ?_) AllReadyH.nil
          refine if_wanted (wanted_none rfl) ?_
          simp only [List.getElem_toArray, List.getElem_cons_zero, List.getElem_cons_succ]
          go_simp
          refine hK.out _ _ trivial (fun _ => ?_)
          clear hK K
          refine wpAnyH_done (by kernel_rfl) ?_ _
          go_wp2_with fail
          go_roundw
          case rel => exact ⟨j + 1, by omega, by go_num, HS2⟩
          case measure => simp [intOf]; omega
        · obtain rfl : j = n := by omega
          have HE : Hid (RdTab t w1 (.returned (.tuple #[.slice (some ⟨w1.heap.size, 0, none⟩) j j, .bool true])) wr) := by
            obtain ⟨h1, cur, h2, h3, h4⟩ := hS.out
            refine ⟨.inl ⟨HI.out, some ⟨w1.heap.size, 0, none⟩, j, ?_, ?_⟩, h1⟩
            · rw [← HN.out.2]
            · rw [← HN.out.2]
              exact .inr ⟨_, rfl, Nat.le_refl _, cur, h2, by omega, h4⟩
          clear hS
          go_wp2_with fail
          exact bodyPost_ret (v := .tuple #[.slice (some ⟨w1.heap.size, 0, none⟩) j j, .bool true]) (by simp [results, Try.results16, go_sem]) rfl HE.out
    · rw [decide_eq_false h1] at hi
      have HI : Hid (¬ TableIn t) := fun h => h1 (by unfold TableIn at h; omega)
      clear hr hn h0 h1
      go_enter Try.func16, Try.ntmps16
      go_wp2_with fail
      refine (hi _).mono ?_
      rintro e w1 ⟨rfl, rfl⟩
      go_wp2_with fail
      exact bodyPost_ret (v := .tuple #[.slice none 0 0, .bool false]) (by simp [results, Try.results16, go_sem]) rfl ⟨.inr ⟨HI.out, _, _, rfl⟩, Below.refl _ _⟩
  · have d0 : ((r : Int) != 0) = true := by simp only [bne_iff_ne, ne_eq]; omega
    have HI : Hid (¬ TableIn t) := fun h => h0 (by unfold TableIn at h; omega)
    clear hr hn h0
    go_enter Try.func16, Try.ntmps16
    go_wp2_with fail
    exact bodyPost_ret (v := .tuple #[.slice none 0 0, .bool false]) (by simp [results, Try.results16, go_sem]) rfl ⟨.inr ⟨HI.out, _, _, rfl⟩, Below.refl _ _⟩
end Go.Proofs.Ytcnlcbkgbcnloaa
