/-
  The law FnHeads: drawn heads, tables and what is clear come back from their texts. (Printed by tools/mkfnheads.py.)
-/
import Derived.Test.YtcnlcbkgbcnloaaRows
import Derived.Test.YtcnlcbkgbcnloaaHk01
import Derived.Test.YtcnlcbkgbcnloaaHk02
import Derived.Test.YtcnlcbkgbcnloaaHk03
import Derived.Test.YtcnlcbkgbcnloaaHk04
import Derived.Test.YtcnlcbkgbcnloaaHk06
import Derived.Test.YtcnlcbkgbcnloaaHk09
import Derived.Test.YtcnlcbkgbcnloaaHk12
import Derived.Test.YtcnlcbkgbcnloaaHk13
import Derived.Test.YtcnlcbkgbcnloaaHk14
import Derived.Test.YtcnlcbkgbcnloaaHk17
import Derived.Test.YtcnlcbkgbcnloaaHk20
import Derived.Test.YtcnlcbkgbcnloaaHk21
import Derived.Test.YtcnlcbkgbcnloaaHk22
import Derived.Test.YtcnlcbkgbcnloaaHk27
import Derived.Test.YtcnlcbkgbcnloaaHk29
import Derived.Test.YtcnlcbkgbcnloaaHk36
import Derived.WalkKit
import Derived.ProofKit
import Derived.WalkLawsBesides
import Derived.OpenShut
import Derived.Laws.StructEq
import Derived.Below
import Derived.Lib.SmallJoins
namespace Go.Proofs.Ytcnlcbkgbcnloaa
open Go.RowKit Go.Joins HeadMath

/-- What ReadTable answers at what TableText tells. -/
theorem readTable_told (F : Nat → Rgb3) (n : Nat) (T : ByteArray) (b : Bool) (_hn : n ≤ 300) (h1 : b = true → T = tableT F n ∧ TableR F n) (h2 : b = false → T = ⟨#[]⟩ ∧ ¬ TableR F n) :
    ∃ m, m ≤ n ∧ (b = true → m = n ∧ T.size = 3 * n) ∧ ∀ w, Calls Try.prog 16 #[.string T] w fun e w' => (∃ (a : Option Addr) (c : Nat), e = .returned (.tuple #[.slice a m c, .bool b]) ∧ RgbCame w' a m F) ∧ Below w.heap.size w w' := by
  cases b
  · obtain ⟨rfl, _⟩ := h2 rfl
    refine ⟨0, Nat.zero_le _, (fun e => by cases e), fun w => (implReadTable ⟨#[]⟩ w (by decide)).mono ?_⟩
    rintro e w1 ⟨⟨hI, _⟩ | ⟨_, a, c, rfl⟩, hB⟩
    · have := hI.2.1
      exact absurd this (by decide)
    · exact ⟨⟨a, c, rfl, .inl rfl⟩, hB⟩
  · obtain ⟨rfl, hR⟩ := h1 rfl
    obtain ⟨hI, hs, hF⟩ := table_back hR
    have hsz := tableT_size F n
    refine ⟨n, Nat.le_refl _, fun _ => ⟨rfl, hsz⟩, fun w => (implReadTable (tableT F n) w (by omega)).mono ?_⟩
    rintro e w1 ⟨⟨_, a, c, rfl, hS⟩ | ⟨hN, _⟩, hB⟩
    · rw [hs] at hS ⊢
      exact ⟨⟨a, c, rfl, hS.came.congr hF⟩, hB⟩
    · exact absurd hI hN
/-- What HeadText answers, and ReadHead of it. -/
theorem readHead_told (x y d c : Int) (l : Bool) (h : HeadR x y d c) (w : World) : Calls Try.prog 13 #[.string (headT x y d c l)] w fun e w' => e = .returned (.tuple #[.agg #[.int .i64 x, .int .i64 y, .int .i64 d, .int .i64 c, .bool l], .bool true]) ∧ Below w.heap.size w w' := by
  obtain ⟨hI, e0, e1, e2, e3, e4⟩ := head_back l h
  have hk := implReadHead (headT x y d c l) w (by rw [headT_size]; omega)
  rw [readHAns_yes hI, e0, e1, e2, e3, e4] at hk
  exact hk
set_option maxRecDepth 100000 in
set_option maxHeartbeats 12800000 in
theorem FnHeads_at (a : Option Addr) (len cap : Nat) (w : World) (hK : CodeAt w w.heap.size a len) (hl : (len : Int) ≤ 1048576) :
    Calls Try.prog 3 #[.slice a len cap] w fun e w' => e = .returned (.bool true) ∧ Below w.heap.size w w' := by
  have HK := hid_of hK
  clear hK
  go_enter Try.func3, Try.ntmps3
  go_wp2_with fail
  refine (big_no a len cap _ hl).mono ?_
  rintro e w0 ⟨rfl, rfl⟩
  go_wp2_with fail
  refine (draw_headText a len cap w0.heap.size w0 HK.out (by omega) (Nat.le_refl _)).mono ?_
  rintro e w1 ⟨⟨x, y, d, c, l, rfl⟩, hB1⟩
  have HX1 : Hid ((w1.alloc (.cells #[.int .i64 x, .int .i64 y, .int .i64 d, .int .i64 c, .bool l] 25)).heap[w1.heap.size]? = some (.cells #[.int .i64 x, .int .i64 y, .int .i64 d, .int .i64 c, .bool l] 25 (0, 0))) := heap_alloc_new w1 _
  have HB1 := hid_of (bal hB1 (.cells #[.int .i64 x, .int .i64 y, .int .i64 d, .int .i64 c, .bool l] 25))
  have hht := implHeadText x y d c l
  have hho := specHeadOk x y d c l
  clear hB1
  go_wp2_with fail
  generalize w1.alloc (.cells #[.int .i64 x, .int .i64 y, .int .i64 d, .int .i64 c, .bool l] 25) = W2 at HX1 HB1 ⊢
  generalize w1.heap.size = X at HX1 ⊢
  refine (hht W2).mono ?_
  rintro e w3 ⟨he, hB3⟩
  have HX3 := hid_of ((hB3.block _ (block_lt HX1.out)).trans HX1.out)
  have HB3 := hid_of (bnext HB1.out hB3)
  clear hB3 HX1 HB1 hht
  obtain ⟨k0, k1, k2, k3, k4⟩ := head_cells HX3.out
  have lx := block_lt HX3.out
  unfold headAns at he
  by_cases hR : HeadR x y d c
  · rw [if_pos hR] at he
    subst he
    rw [decide_eq_true hR] at hho
    have hrh := readHead_told x y d c l hR
    have h13 : (headT x y d c l).size = 13 := headT_size x y d c l
    have n13 : (((headT x y d c l).size : Int) != 13) = false := by rw [h13]; rfl
    generalize headT x y d c l = T at hrh h13 n13 ⊢
    clear hR h13
    go_wp2_with fail
    refine (hho w3).mono ?_
    rintro e w4 ⟨rfl, hB4⟩
    have HX4 := hid_of ((hB4.block _ (block_lt HX3.out)).trans HX3.out)
    have HB4 := hid_of (bnext HB3.out hB4)
    clear hB4 HX3 HB3 hho k0 k1 k2 k3 k4 lx
    go_wp2_with fail
    refine (hrh w4).mono ?_
    rintro e w5 ⟨rfl, hB5⟩
    have hX5 := (hB5.block _ (block_lt HX4.out)).trans HX4.out
    obtain ⟨k0, k1, k2, k3, k4⟩ := head_cells hX5
    have lx := block_lt hX5
    have HB5 := hid_of (bal (bnext HB4.out hB5) (.cells #[.int .i64 x, .int .i64 y, .int .i64 d, .int .i64 c, .bool l] 25))
    have e0 : (x == x) = true := by simp
    have e1 : (y == y) = true := by simp
    have e2 : (d == d) = true := by simp
    have e3 : (c == c) = true := by simp
    have e4 : (l == l) = true := by simp
    clear hB5 HX4 HB4 hrh hX5
    go_wp2_with fail
    clear k0 k1 k2 k3 k4 lx e0 e1 e2 e3 e4 n13
    generalize w5.alloc (.cells #[.int .i64 x, .int .i64 y, .int .i64 d, .int .i64 c, .bool l] 25) = W6 at HB5 ⊢
    refine (draw_tableText a len cap w0.heap.size W6 (HK.out.below HB5.out) (by omega) HB5.out.size).mono ?_
    rintro e w7 ⟨ta, n, tc, F, rfl, hn, hR7, hB7⟩
    have HR7 := hid_of hR7
    have HB7 := hid_of (HB5.out.trans hB7)
    clear hR7 hB7 HB5
    obtain ⟨T2, b2, g1, g2, hfx⟩ := tab_fix F n
    obtain ⟨m, hm, hmt, hrt⟩ := readTable_told F n T2 b2 hn g1 g2
    clear g1 g2
    have hnb : (b2 != b2) = false := by simp
    go_wp2_with fail
    refine ((implTableText ta n tc F w7 HR7.out (by omega)).mono (hfx w7)).mono ?_
    rintro e w8 ⟨rfl, hB8⟩
    have HR8 := hid_of (HR7.out.called hB8)
    have HB8 := hid_of (bnext HB7.out hB8)
    clear hB8 HB7 HR7 hfx
    go_wp2_with fail
    refine (hrt w8).mono ?_
    rintro e w9 ⟨⟨la, lc, rfl, hL⟩, hB9⟩
    have HR9 := hid_of (HR8.out.called hB9)
    have HB9 := hid_of (bnext HB8.out hB9)
    have HL9 := hid_of hL
    clear hB9 HB8 HR8 hrt hL
    cases b2
    · have HM := hid_of hm
      clear hmt
      go_wp2_with fail
      clear hm
      go_loopw [13] (fun i w' => ∃ j : Nat, j ≤ m ∧ i = .int .i64 j ∧ Hid (Below w0.heap.size w0 w' ∧ RgbCame w' la m F ∧ RgbCame w' ta n F)) (fun i _ => m - (intOf i).toNat)
      case atStart => exact ⟨0, Nat.zero_le _, rfl, HB9.out, HL9.out, HR9.out⟩
      case round =>
        clear HB9 HL9 HR9
        obtain ⟨j, hj, rfl, hS⟩ := hrel
        by_cases hlt : j < m
        · rcases hS.out.2.1 with h0 | ⟨g, off, rfl, hg, hc⟩
          · omega
          · rcases hS.out.2.2 with h0 | ⟨g', off', rfl, hg', hc'⟩
            · have := HM.out
              omega
            · obtain ⟨c0, c1, c2⟩ := hc j hlt
              obtain ⟨d0, d1, d2⟩ := hc' j (by have := HM.out; omega)
              have HN : Hid (Below w0.heap.size w0 wr.drew ∧ RgbCame wr.drew (some ⟨g, off, none⟩) m F ∧ RgbCame wr.drew (some ⟨g', off', none⟩) n F) := ⟨bdraws hS.out.1 1, hS.out.2.1.called (bdraws (Below.refl _ _) 1), hS.out.2.2.called (bdraws (Below.refl _ _) 1)⟩
              have jn : (j : Int) < (n : Int) := by have := HM.out; omega
              have jn2 : j < n := by have := HM.out; omega
              generalize (F j).1 = x1 at c0 d0
              generalize (F j).2.1 = x2 at c1 d1
              generalize (F j).2.2 = x3 at c2 d2
              have e0 : (x1 == x1) = true := by simp
              have e1 : (x2 == x2) = true := by simp
              have e2 : (x3 == x3) = true := by simp
              clear hc hc' hS
              go_wp2_with fail
              go_region
              go_wp2_with fail
              go_roundw
              case rel => exact ⟨j + 1, by omega, by go_num, HN⟩
              case measure => simp [intOf]; omega
        · have HB9 := hid_of hS.out.1
          clear hS
          go_wp2_with fail
          refine (draw_clearText a len cap w0.heap.size wr (HK.out.below HB9.out) (by omega) HB9.out.size).mono ?_
          rintro e w10 ⟨⟨x, y, d, c, table, l, g, q, gc, f, rfl, hq, hC⟩, hB10⟩
          have HX10 : Hid ((w10.alloc (.cells #[.int .i64 x, .int .i64 y, .int .i64 d, .int .i64 c, .bool l] 25)).heap[w10.heap.size]? = some (.cells #[.int .i64 x, .int .i64 y, .int .i64 d, .int .i64 c, .bool l] 25 (0, 0))) := heap_alloc_new w10 _
          have HB10 := hid_of ((HB9.out.trans hB10).alloc (by have := (HB9.out.trans hB10).size; omega) (.cells #[.int .i64 x, .int .i64 y, .int .i64 d, .int .i64 c, .bool l] 25))
          have HC10 : Hid (Came (w10.alloc (.cells #[.int .i64 x, .int .i64 y, .int .i64 d, .int .i64 c, .bool l] 25)) (some ⟨g, 0, none⟩) q f) := hC.called (bstart _ _)
          obtain ⟨T3, b3, p1, p2, hfx⟩ := clr_fix x y d c table q f
          have hrc := fun W => implReadClear x y d c table l q f T3 b3 W (by omega) p1 p2
          have hnb3 : (b3 != b3) = false := by simp
          clear hB10 HB9 hC p1 p2
          go_wp2_with fail
          generalize w10.alloc (.cells #[.int .i64 x, .int .i64 y, .int .i64 d, .int .i64 c, .bool l] 25) = W11 at HX10 HB10 HC10 ⊢
          generalize w10.heap.size = X3 at HX10 ⊢
          refine ((implClearText x y c table l d (some ⟨g, 0, none⟩) q gc f W11 HC10.out (by omega)).mono (hfx W11)).mono ?_
          rintro e w12 ⟨rfl, hB12⟩
          have HX12 := hid_of ((hB12.block _ (block_lt HX10.out)).trans HX10.out)
          have HC12 := hid_of (HC10.out.called hB12)
          have HB12 := hid_of (bnext HB10.out hB12)
          clear hB12 HX10 HC10 HB10
          obtain ⟨k0, k1, k2, k3, k4⟩ := head_cells HX12.out
          have lx := block_lt HX12.out
          go_wp2_with fail
          refine ((specClearText x y c table l d (some ⟨g, 0, none⟩) q gc f w12 HC12.out (by omega)).mono (hfx w12)).mono ?_
          rintro e w13 ⟨rfl, hB13⟩
          have HX13 := hid_of ((hB13.block _ (block_lt HX12.out)).trans HX12.out)
          have HC13 := hid_of (HC12.out.called hB13)
          have HB13 := hid_of (bnext HB12.out hB13)
          clear hB13 HX12 HC12 HB12 k0 k1 k2 k3 k4 lx hfx
          obtain ⟨k0, k1, k2, k3, k4⟩ := head_cells HX13.out
          have lx := block_lt HX13.out
          go_wp2_with fail
          refine (hrc w13).mono ?_
          rintro e w14 ⟨⟨ra, rm, rc, rq, rfl, hans⟩, hB14⟩
          have HC14 := hid_of (HC13.out.called hB14)
          have HB14 := hid_of (bnext HB13.out hB14)
          clear hB14 HX13 HC13 HB13 k0 k1 k2 k3 k4 lx hrc
          cases b3
          · go_wp2_with fail
            go_ret
            exact ⟨rfl, HB14.out⟩
          · obtain ⟨rfl, rfl, hcr⟩ := hans rfl
            have HCR := hid_of hcr
            clear hcr hans
            go_wp2_with fail
            refine (sameInts_same ra (some ⟨g, 0, none⟩) rm rc gc f w14 HCR.out HC14.out (by omega)).mono ?_
            rintro e w15 ⟨rfl, hB15⟩
            have HB15 := hid_of (bnext HB14.out hB15)
            clear hB15
            go_wp2_with fail
            go_ret
            exact ⟨rfl, HB15.out⟩
    · obtain ⟨rfl, hts⟩ := hmt rfl
      have HM := hid_of hm
      have q1 : ((m : Int) != (m : Int)) = false := by simp
      have q2 : ((T2.size : Int) != 3 * (m : Int)) = false := by
        rw [hts]
        simp
      clear hts hmt
      go_wp2_with fail
      clear hm
      go_loopw [13] (fun i w' => ∃ j : Nat, j ≤ m ∧ i = .int .i64 j ∧ Hid (Below w0.heap.size w0 w' ∧ RgbCame w' la m F ∧ RgbCame w' ta m F)) (fun i _ => m - (intOf i).toNat)
      case atStart => exact ⟨0, Nat.zero_le _, rfl, HB9.out, HL9.out, HR9.out⟩
      case round =>
        clear HB9 HL9 HR9
        obtain ⟨j, hj, rfl, hS⟩ := hrel
        by_cases hlt : j < m
        · rcases hS.out.2.1 with h0 | ⟨g, off, rfl, hg, hc⟩
          · omega
          · rcases hS.out.2.2 with h0 | ⟨g', off', rfl, hg', hc'⟩
            · have := HM.out
              omega
            · obtain ⟨c0, c1, c2⟩ := hc j hlt
              obtain ⟨d0, d1, d2⟩ := hc' j (by have := HM.out; omega)
              have HN : Hid (Below w0.heap.size w0 wr.drew ∧ RgbCame wr.drew (some ⟨g, off, none⟩) m F ∧ RgbCame wr.drew (some ⟨g', off', none⟩) m F) := ⟨bdraws hS.out.1 1, hS.out.2.1.called (bdraws (Below.refl _ _) 1), hS.out.2.2.called (bdraws (Below.refl _ _) 1)⟩
              have jn : (j : Int) < (m : Int) := by have := HM.out; omega
              have jn2 : j < m := by have := HM.out; omega
              generalize (F j).1 = x1 at c0 d0
              generalize (F j).2.1 = x2 at c1 d1
              generalize (F j).2.2 = x3 at c2 d2
              have e0 : (x1 == x1) = true := by simp
              have e1 : (x2 == x2) = true := by simp
              have e2 : (x3 == x3) = true := by simp
              clear hc hc' hS
              go_wp2_with fail
              go_region
              go_wp2_with fail
              go_roundw
              case rel => exact ⟨j + 1, by omega, by go_num, HN⟩
              case measure => simp [intOf]; omega
        · have HB9 := hid_of hS.out.1
          clear hS
          go_wp2_with fail
          refine (draw_clearText a len cap w0.heap.size wr (HK.out.below HB9.out) (by omega) HB9.out.size).mono ?_
          rintro e w10 ⟨⟨x, y, d, c, table, l, g, q, gc, f, rfl, hq, hC⟩, hB10⟩
          have HX10 : Hid ((w10.alloc (.cells #[.int .i64 x, .int .i64 y, .int .i64 d, .int .i64 c, .bool l] 25)).heap[w10.heap.size]? = some (.cells #[.int .i64 x, .int .i64 y, .int .i64 d, .int .i64 c, .bool l] 25 (0, 0))) := heap_alloc_new w10 _
          have HB10 := hid_of ((HB9.out.trans hB10).alloc (by have := (HB9.out.trans hB10).size; omega) (.cells #[.int .i64 x, .int .i64 y, .int .i64 d, .int .i64 c, .bool l] 25))
          have HC10 : Hid (Came (w10.alloc (.cells #[.int .i64 x, .int .i64 y, .int .i64 d, .int .i64 c, .bool l] 25)) (some ⟨g, 0, none⟩) q f) := hC.called (bstart _ _)
          obtain ⟨T3, b3, p1, p2, hfx⟩ := clr_fix x y d c table q f
          have hrc := fun W => implReadClear x y d c table l q f T3 b3 W (by omega) p1 p2
          have hnb3 : (b3 != b3) = false := by simp
          clear hB10 HB9 hC p1 p2
          go_wp2_with fail
          generalize w10.alloc (.cells #[.int .i64 x, .int .i64 y, .int .i64 d, .int .i64 c, .bool l] 25) = W11 at HX10 HB10 HC10 ⊢
          generalize w10.heap.size = X3 at HX10 ⊢
          refine ((implClearText x y c table l d (some ⟨g, 0, none⟩) q gc f W11 HC10.out (by omega)).mono (hfx W11)).mono ?_
          rintro e w12 ⟨rfl, hB12⟩
          have HX12 := hid_of ((hB12.block _ (block_lt HX10.out)).trans HX10.out)
          have HC12 := hid_of (HC10.out.called hB12)
          have HB12 := hid_of (bnext HB10.out hB12)
          clear hB12 HX10 HC10 HB10
          obtain ⟨k0, k1, k2, k3, k4⟩ := head_cells HX12.out
          have lx := block_lt HX12.out
          go_wp2_with fail
          refine ((specClearText x y c table l d (some ⟨g, 0, none⟩) q gc f w12 HC12.out (by omega)).mono (hfx w12)).mono ?_
          rintro e w13 ⟨rfl, hB13⟩
          have HX13 := hid_of ((hB13.block _ (block_lt HX12.out)).trans HX12.out)
          have HC13 := hid_of (HC12.out.called hB13)
          have HB13 := hid_of (bnext HB12.out hB13)
          clear hB13 HX12 HC12 HB12 k0 k1 k2 k3 k4 lx hfx
          obtain ⟨k0, k1, k2, k3, k4⟩ := head_cells HX13.out
          have lx := block_lt HX13.out
          go_wp2_with fail
          refine (hrc w13).mono ?_
          rintro e w14 ⟨⟨ra, rm, rc, rq, rfl, hans⟩, hB14⟩
          have HC14 := hid_of (HC13.out.called hB14)
          have HB14 := hid_of (bnext HB13.out hB14)
          clear hB14 HX13 HC13 HB13 k0 k1 k2 k3 k4 lx hrc
          cases b3
          · go_wp2_with fail
            go_ret
            exact ⟨rfl, HB14.out⟩
          · obtain ⟨rfl, rfl, hcr⟩ := hans rfl
            have HCR := hid_of hcr
            clear hcr hans
            go_wp2_with fail
            refine (sameInts_same ra (some ⟨g, 0, none⟩) rm rc gc f w14 HCR.out HC14.out (by omega)).mono ?_
            rintro e w15 ⟨rfl, hB15⟩
            have HB15 := hid_of (bnext HB14.out hB15)
            clear hB15
            go_wp2_with fail
            go_ret
            exact ⟨rfl, HB15.out⟩
  · rw [if_neg hR] at he
    subst he
    rw [decide_eq_false hR] at hho
    clear hR
    go_wp2_with fail
    refine (hho w3).mono ?_
    rintro e w4 ⟨rfl, hB4⟩
    have HB5 := hid_of (bnext HB3.out hB4)
    clear hB4 HX3 HB3 hho k0 k1 k2 k3 k4 lx
    go_wp2_with fail
    generalize w4 = W6 at HB5 ⊢
    refine (draw_tableText a len cap w0.heap.size W6 (HK.out.below HB5.out) (by omega) HB5.out.size).mono ?_
    rintro e w7 ⟨ta, n, tc, F, rfl, hn, hR7, hB7⟩
    have HR7 := hid_of hR7
    have HB7 := hid_of (HB5.out.trans hB7)
    clear hR7 hB7 HB5
    obtain ⟨T2, b2, g1, g2, hfx⟩ := tab_fix F n
    obtain ⟨m, hm, hmt, hrt⟩ := readTable_told F n T2 b2 hn g1 g2
    clear g1 g2
    have hnb : (b2 != b2) = false := by simp
    go_wp2_with fail
    refine ((implTableText ta n tc F w7 HR7.out (by omega)).mono (hfx w7)).mono ?_
    rintro e w8 ⟨rfl, hB8⟩
    have HR8 := hid_of (HR7.out.called hB8)
    have HB8 := hid_of (bnext HB7.out hB8)
    clear hB8 HB7 HR7 hfx
    go_wp2_with fail
    refine (hrt w8).mono ?_
    rintro e w9 ⟨⟨la, lc, rfl, hL⟩, hB9⟩
    have HR9 := hid_of (HR8.out.called hB9)
    have HB9 := hid_of (bnext HB8.out hB9)
    have HL9 := hid_of hL
    clear hB9 HB8 HR8 hrt hL
    cases b2
    · have HM := hid_of hm
      clear hmt
      go_wp2_with fail
      clear hm
      go_loopw [13] (fun i w' => ∃ j : Nat, j ≤ m ∧ i = .int .i64 j ∧ Hid (Below w0.heap.size w0 w' ∧ RgbCame w' la m F ∧ RgbCame w' ta n F)) (fun i _ => m - (intOf i).toNat)
      case atStart => exact ⟨0, Nat.zero_le _, rfl, HB9.out, HL9.out, HR9.out⟩
      case round =>
        clear HB9 HL9 HR9
        obtain ⟨j, hj, rfl, hS⟩ := hrel
        by_cases hlt : j < m
        · rcases hS.out.2.1 with h0 | ⟨g, off, rfl, hg, hc⟩
          · omega
          · rcases hS.out.2.2 with h0 | ⟨g', off', rfl, hg', hc'⟩
            · have := HM.out
              omega
            · obtain ⟨c0, c1, c2⟩ := hc j hlt
              obtain ⟨d0, d1, d2⟩ := hc' j (by have := HM.out; omega)
              have HN : Hid (Below w0.heap.size w0 wr.drew ∧ RgbCame wr.drew (some ⟨g, off, none⟩) m F ∧ RgbCame wr.drew (some ⟨g', off', none⟩) n F) := ⟨bdraws hS.out.1 1, hS.out.2.1.called (bdraws (Below.refl _ _) 1), hS.out.2.2.called (bdraws (Below.refl _ _) 1)⟩
              have jn : (j : Int) < (n : Int) := by have := HM.out; omega
              have jn2 : j < n := by have := HM.out; omega
              generalize (F j).1 = x1 at c0 d0
              generalize (F j).2.1 = x2 at c1 d1
              generalize (F j).2.2 = x3 at c2 d2
              have e0 : (x1 == x1) = true := by simp
              have e1 : (x2 == x2) = true := by simp
              have e2 : (x3 == x3) = true := by simp
              clear hc hc' hS
              go_wp2_with fail
              go_region
              go_wp2_with fail
              go_roundw
              case rel => exact ⟨j + 1, by omega, by go_num, HN⟩
              case measure => simp [intOf]; omega
        · have HB9 := hid_of hS.out.1
          clear hS
          go_wp2_with fail
          refine (draw_clearText a len cap w0.heap.size wr (HK.out.below HB9.out) (by omega) HB9.out.size).mono ?_
          rintro e w10 ⟨⟨x, y, d, c, table, l, g, q, gc, f, rfl, hq, hC⟩, hB10⟩
          have HX10 : Hid ((w10.alloc (.cells #[.int .i64 x, .int .i64 y, .int .i64 d, .int .i64 c, .bool l] 25)).heap[w10.heap.size]? = some (.cells #[.int .i64 x, .int .i64 y, .int .i64 d, .int .i64 c, .bool l] 25 (0, 0))) := heap_alloc_new w10 _
          have HB10 := hid_of ((HB9.out.trans hB10).alloc (by have := (HB9.out.trans hB10).size; omega) (.cells #[.int .i64 x, .int .i64 y, .int .i64 d, .int .i64 c, .bool l] 25))
          have HC10 : Hid (Came (w10.alloc (.cells #[.int .i64 x, .int .i64 y, .int .i64 d, .int .i64 c, .bool l] 25)) (some ⟨g, 0, none⟩) q f) := hC.called (bstart _ _)
          obtain ⟨T3, b3, p1, p2, hfx⟩ := clr_fix x y d c table q f
          have hrc := fun W => implReadClear x y d c table l q f T3 b3 W (by omega) p1 p2
          have hnb3 : (b3 != b3) = false := by simp
          clear hB10 HB9 hC p1 p2
          go_wp2_with fail
          generalize w10.alloc (.cells #[.int .i64 x, .int .i64 y, .int .i64 d, .int .i64 c, .bool l] 25) = W11 at HX10 HB10 HC10 ⊢
          generalize w10.heap.size = X3 at HX10 ⊢
          refine ((implClearText x y c table l d (some ⟨g, 0, none⟩) q gc f W11 HC10.out (by omega)).mono (hfx W11)).mono ?_
          rintro e w12 ⟨rfl, hB12⟩
          have HX12 := hid_of ((hB12.block _ (block_lt HX10.out)).trans HX10.out)
          have HC12 := hid_of (HC10.out.called hB12)
          have HB12 := hid_of (bnext HB10.out hB12)
          clear hB12 HX10 HC10 HB10
          obtain ⟨k0, k1, k2, k3, k4⟩ := head_cells HX12.out
          have lx := block_lt HX12.out
          go_wp2_with fail
          refine ((specClearText x y c table l d (some ⟨g, 0, none⟩) q gc f w12 HC12.out (by omega)).mono (hfx w12)).mono ?_
          rintro e w13 ⟨rfl, hB13⟩
          have HX13 := hid_of ((hB13.block _ (block_lt HX12.out)).trans HX12.out)
          have HC13 := hid_of (HC12.out.called hB13)
          have HB13 := hid_of (bnext HB12.out hB13)
          clear hB13 HX12 HC12 HB12 k0 k1 k2 k3 k4 lx hfx
          obtain ⟨k0, k1, k2, k3, k4⟩ := head_cells HX13.out
          have lx := block_lt HX13.out
          go_wp2_with fail
          refine (hrc w13).mono ?_
          rintro e w14 ⟨⟨ra, rm, rc, rq, rfl, hans⟩, hB14⟩
          have HC14 := hid_of (HC13.out.called hB14)
          have HB14 := hid_of (bnext HB13.out hB14)
          clear hB14 HX13 HC13 HB13 k0 k1 k2 k3 k4 lx hrc
          cases b3
          · go_wp2_with fail
            go_ret
            exact ⟨rfl, HB14.out⟩
          · obtain ⟨rfl, rfl, hcr⟩ := hans rfl
            have HCR := hid_of hcr
            clear hcr hans
            go_wp2_with fail
            refine (sameInts_same ra (some ⟨g, 0, none⟩) rm rc gc f w14 HCR.out HC14.out (by omega)).mono ?_
            rintro e w15 ⟨rfl, hB15⟩
            have HB15 := hid_of (bnext HB14.out hB15)
            clear hB15
            go_wp2_with fail
            go_ret
            exact ⟨rfl, HB15.out⟩
    · obtain ⟨rfl, hts⟩ := hmt rfl
      have HM := hid_of hm
      have q1 : ((m : Int) != (m : Int)) = false := by simp
      have q2 : ((T2.size : Int) != 3 * (m : Int)) = false := by
        rw [hts]
        simp
      clear hts hmt
      go_wp2_with fail
      clear hm
      go_loopw [13] (fun i w' => ∃ j : Nat, j ≤ m ∧ i = .int .i64 j ∧ Hid (Below w0.heap.size w0 w' ∧ RgbCame w' la m F ∧ RgbCame w' ta m F)) (fun i _ => m - (intOf i).toNat)
      case atStart => exact ⟨0, Nat.zero_le _, rfl, HB9.out, HL9.out, HR9.out⟩
      case round =>
        clear HB9 HL9 HR9
        obtain ⟨j, hj, rfl, hS⟩ := hrel
        by_cases hlt : j < m
        · rcases hS.out.2.1 with h0 | ⟨g, off, rfl, hg, hc⟩
          · omega
          · rcases hS.out.2.2 with h0 | ⟨g', off', rfl, hg', hc'⟩
            · have := HM.out
              omega
            · obtain ⟨c0, c1, c2⟩ := hc j hlt
              obtain ⟨d0, d1, d2⟩ := hc' j (by have := HM.out; omega)
              have HN : Hid (Below w0.heap.size w0 wr.drew ∧ RgbCame wr.drew (some ⟨g, off, none⟩) m F ∧ RgbCame wr.drew (some ⟨g', off', none⟩) m F) := ⟨bdraws hS.out.1 1, hS.out.2.1.called (bdraws (Below.refl _ _) 1), hS.out.2.2.called (bdraws (Below.refl _ _) 1)⟩
              have jn : (j : Int) < (m : Int) := by have := HM.out; omega
              have jn2 : j < m := by have := HM.out; omega
              generalize (F j).1 = x1 at c0 d0
              generalize (F j).2.1 = x2 at c1 d1
              generalize (F j).2.2 = x3 at c2 d2
              have e0 : (x1 == x1) = true := by simp
              have e1 : (x2 == x2) = true := by simp
              have e2 : (x3 == x3) = true := by simp
              clear hc hc' hS
              go_wp2_with fail
              go_region
              go_wp2_with fail
              go_roundw
              case rel => exact ⟨j + 1, by omega, by go_num, HN⟩
              case measure => simp [intOf]; omega
        · have HB9 := hid_of hS.out.1
          clear hS
          go_wp2_with fail
          refine (draw_clearText a len cap w0.heap.size wr (HK.out.below HB9.out) (by omega) HB9.out.size).mono ?_
          rintro e w10 ⟨⟨x, y, d, c, table, l, g, q, gc, f, rfl, hq, hC⟩, hB10⟩
          have HX10 : Hid ((w10.alloc (.cells #[.int .i64 x, .int .i64 y, .int .i64 d, .int .i64 c, .bool l] 25)).heap[w10.heap.size]? = some (.cells #[.int .i64 x, .int .i64 y, .int .i64 d, .int .i64 c, .bool l] 25 (0, 0))) := heap_alloc_new w10 _
          have HB10 := hid_of ((HB9.out.trans hB10).alloc (by have := (HB9.out.trans hB10).size; omega) (.cells #[.int .i64 x, .int .i64 y, .int .i64 d, .int .i64 c, .bool l] 25))
          have HC10 : Hid (Came (w10.alloc (.cells #[.int .i64 x, .int .i64 y, .int .i64 d, .int .i64 c, .bool l] 25)) (some ⟨g, 0, none⟩) q f) := hC.called (bstart _ _)
          obtain ⟨T3, b3, p1, p2, hfx⟩ := clr_fix x y d c table q f
          have hrc := fun W => implReadClear x y d c table l q f T3 b3 W (by omega) p1 p2
          have hnb3 : (b3 != b3) = false := by simp
          clear hB10 HB9 hC p1 p2
          go_wp2_with fail
          generalize w10.alloc (.cells #[.int .i64 x, .int .i64 y, .int .i64 d, .int .i64 c, .bool l] 25) = W11 at HX10 HB10 HC10 ⊢
          generalize w10.heap.size = X3 at HX10 ⊢
          refine ((implClearText x y c table l d (some ⟨g, 0, none⟩) q gc f W11 HC10.out (by omega)).mono (hfx W11)).mono ?_
          rintro e w12 ⟨rfl, hB12⟩
          have HX12 := hid_of ((hB12.block _ (block_lt HX10.out)).trans HX10.out)
          have HC12 := hid_of (HC10.out.called hB12)
          have HB12 := hid_of (bnext HB10.out hB12)
          clear hB12 HX10 HC10 HB10
          obtain ⟨k0, k1, k2, k3, k4⟩ := head_cells HX12.out
          have lx := block_lt HX12.out
          go_wp2_with fail
          refine ((specClearText x y c table l d (some ⟨g, 0, none⟩) q gc f w12 HC12.out (by omega)).mono (hfx w12)).mono ?_
          rintro e w13 ⟨rfl, hB13⟩
          have HX13 := hid_of ((hB13.block _ (block_lt HX12.out)).trans HX12.out)
          have HC13 := hid_of (HC12.out.called hB13)
          have HB13 := hid_of (bnext HB12.out hB13)
          clear hB13 HX12 HC12 HB12 k0 k1 k2 k3 k4 lx hfx
          obtain ⟨k0, k1, k2, k3, k4⟩ := head_cells HX13.out
          have lx := block_lt HX13.out
          go_wp2_with fail
          refine (hrc w13).mono ?_
          rintro e w14 ⟨⟨ra, rm, rc, rq, rfl, hans⟩, hB14⟩
          have HC14 := hid_of (HC13.out.called hB14)
          have HB14 := hid_of (bnext HB13.out hB14)
          clear hB14 HX13 HC13 HB13 k0 k1 k2 k3 k4 lx hrc
          cases b3
          · go_wp2_with fail
            go_ret
            exact ⟨rfl, HB14.out⟩
          · obtain ⟨rfl, rfl, hcr⟩ := hans rfl
            have HCR := hid_of hcr
            clear hcr hans
            go_wp2_with fail
            refine (sameInts_same ra (some ⟨g, 0, none⟩) rm rc gc f w14 HCR.out HC14.out (by omega)).mono ?_
            rintro e w15 ⟨rfl, hB15⟩
            have HB15 := hid_of (bnext HB14.out hB15)
            clear hB15
            go_wp2_with fail
            go_ret
            exact ⟨rfl, HB15.out⟩
theorem FnHeads_over (a : Option Addr) (len cap : Nat) (zs : List Int) (w : World) (hr : IsRow .u8 w a len cap zs) :
    Calls Try.prog 3 #[.slice a len cap] w fun e w' => e = .returned (.bool true) ∧ Below w.heap.size w w' := by
  obtain ⟨hC, hl, hc⟩ := codeAt_of_row hr
  unfold maxLen at hc
  by_cases h : (len : Int) ≤ 1048576
  · exact FnHeads_at a len cap w hC h
  · have d : (1048576 : Int) < len := by omega
    clear hr hC
    go_enter Try.func3, Try.ntmps3
    go_wp2_with fail
    refine (big_yes a len cap _ d (by omega)).mono ?_
    rintro e w1 ⟨rfl, rfl⟩
    go_wp2_with fail
    go_ret
    exact ⟨rfl, Below.refl _ _⟩
end Go.Proofs.Ytcnlcbkgbcnloaa
