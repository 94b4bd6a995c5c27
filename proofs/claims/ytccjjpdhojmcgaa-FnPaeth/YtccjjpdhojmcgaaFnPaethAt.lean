/-
  The law FnPaeth over what the program's Paeth answers.
-/
import Derived.Test.YtccjjpdhojmcgaaRows
import Derived.Test.YtccjjpdhojmcgaaBase
import Derived.Test.YtccjjpdhojmcgaaOwnLib
import Derived.Test.YtccjjpdhojmcgaaRowLib
import Derived.Test.YtccjjpdhojmcgaaDrawLib
import Derived.Test.YtccjjpdhojmcgaaDrawPick
import Derived.Test.YtccjjpdhojmcgaaDrawFilt
import Derived.Test.YtccjjpdhojmcgaaFiltMath
import Derived.Test.YtccjjpdhojmcgaaFiltVal
import Derived.Test.YtccjjpdhojmcgaaFiltAns
import Derived.Test.YtccjjpdhojmcgaaFiltSpec
import Derived.WalkKit
import Derived.ProofKit
import Derived.OpenShut
import Derived.Below
import Derived.Deep.LoopGhost
import Derived.Lib.SmallJoins
namespace Go.Proofs.Ytccjjpdhojmcgaa
open Go.RowKit Go.Joins TakeMath FiltMath

set_option maxHeartbeats 1600000 in
theorem draw_paeth13 (a : Option Addr) (len cap : Nat) (base : Nat) (w : World) (hK : CodeAt w base a len) (hlen : len ≤ 1048576) (hbase : base ≤ w.heap.size) :
    Calls Try.prog 16 #[.slice a len cap] w fun e w' => ∃ x y z : Int, e = .returned (.tuple #[.int .i64 x, .int .i64 y, .int .i64 z]) ∧ (0 ≤ x ∧ x < 256) ∧ (-1001 ≤ y ∧ y ≤ 1001) ∧ (0 ≤ z ∧ z < 256) ∧ Below base w w' := by
  have HK := hid_of hK
  clear hK
  go_enter Try.func16, Try.ntmps16
  go_wp2_with fail
  refine (draw_new a len cap base w HK.out hlen hbase).mono ?_
  rintro e w1 ⟨rfl, hC1, o, rfl⟩
  have HB1 : Hid (Below base w (w.alloc o)) := (Below.refl base w).alloc hbase o
  obtain ⟨b, hb⟩ : ∃ b, b = w.heap.size := ⟨_, rfl⟩
  have HC1 : Hid (Cur (w.alloc o) base b) := by rw [hb]; exact hC1
  clear hC1
  generalize w.alloc o = w2 at *
  rw [← hb]
  clear hb hbase
  go_wp2_with fail
  refine (draw_below base b 256 _ HC1.out).mono ?_
  rintro e w3 ⟨x, rfl, hx, hC3, hg3⟩
  have hx0 : 0 ≤ x ∧ x < 256 := ⟨hx.1, hx.2.1 (by omega)⟩
  have HC3 := hid_of hC3
  have HB3 := hid_of (HB1.out.trans (below_of_grown hg3 HC1.out.base_le HC1.out.lt))
  clear hx hC3 hg3 HB1 HC1
  go_wp2_with fail
  refine (draw_below base b 256 _ HC3.out).mono ?_
  rintro e w4 ⟨y, rfl, hy, hC4, hg4⟩
  have hy0 : 0 ≤ y ∧ y < 256 := ⟨hy.1, hy.2.1 (by omega)⟩
  have HC4 := hid_of hC4
  have HB4 := hid_of (HB3.out.trans (below_of_grown hg4 HC3.out.base_le HC3.out.lt))
  clear hy hC4 hg4 HB3 HC3
  go_wp2_with fail
  refine (draw_below base b 256 _ HC4.out).mono ?_
  rintro e w5 ⟨z, rfl, hz, hC5, hg5⟩
  have hz0 : 0 ≤ z ∧ z < 256 := ⟨hz.1, hz.2.1 (by omega)⟩
  have HC5 := hid_of hC5
  have HB5 := hid_of (HB4.out.trans (below_of_grown hg5 HC4.out.base_le HC4.out.lt))
  clear hz hC5 hg5 HB4 HC4
  go_wp2_with fail
  refine (draw_below base b 6 _ HC5.out).mono ?_
  rintro e w6 ⟨k, rfl, hk, hC6, hg6⟩
  have hk0 : 0 ≤ k ∧ k < 6 := ⟨hk.1, hk.2.1 (by omega)⟩
  have HC6 := hid_of hC6
  have HB6 := hid_of (HB5.out.trans (below_of_grown hg6 HC5.out.base_le HC5.out.lt))
  clear hk hC6 hg6 HB5 HC5
  by_cases k0 : k = 0
  · subst k0
    go_wp2_with fail
    refine bodyPost_ret (v := .tuple #[.int .i64 x, .int .i64 y, .int .i64 x]) ?_ rfl ⟨x, y, x, rfl, hx0, by omega, hx0, HB6.out⟩
    simp [results, Try.results16, go_sem]
  by_cases k1 : k = 1
  · subst k1
    have HC7 : Hid (Cur (w6.alloc (.cells #[.int .i64 (-1000), .int .i64 1000, .int .i64 1001, .int .i64 (-1001)] 3)) base b) := HC6.out.alloc _
    have hl9 := HC6.out.lt
    have hb9 := HC6.out.base_le
    go_wp2_with fail
    refine (draw_pickInt base b w6.heap.size 4 4 (fun x => -1001 ≤ x ∧ x ≤ 1001) _ HC7.out (by omega) (by omega) (by simp) (fun j hj => ?_)).mono ?_
    · match j, hj with
      | 0, _ => exact ⟨-1000, by simp, by omega, by omega⟩
      | 1, _ => exact ⟨1000, by simp, by omega, by omega⟩
      | 2, _ => exact ⟨1001, by simp, by omega, by omega⟩
      | 3, _ => exact ⟨-1001, by simp, by omega, by omega⟩
    rintro e w7 ⟨q, rfl, hq, hC7, hg7⟩
    have HB7 := hid_of ((HB6.out.alloc (by omega) _).trans (below_of_grown hg7 hb9 (by simp; omega)))
    clear hC7 hg7
    go_wp2_with fail
    refine bodyPost_ret (v := .tuple #[.int .i64 x, .int .i64 q, .int .i64 z]) ?_ rfl ⟨x, q, z, rfl, hx0, hq, hz0, HB7.out⟩
    simp [results, Try.results16, go_sem]
  have b0 := beq_no13 k0
  have b1 := beq_no13 k1
  go_wp2_with fail
  refine bodyPost_ret (v := .tuple #[.int .i64 x, .int .i64 y, .int .i64 z]) ?_ rfl ⟨x, y, z, rfl, hx0, by omega, hz0, HB6.out⟩
  simp [results, Try.results16, go_sem]
theorem siz_neg {x : Int} (h : x < 0) : siz x = -x := if_pos h
theorem siz_pos {x : Int} (h : ¬ x < 0) : siz x = x := if_neg h
set_option maxHeartbeats 3200000 in
theorem FnPaeth_at (hPa : PaethAnswer) (a : Option Addr) (len cap : Nat) (w : World) (hK : CodeAt w w.heap.size a len) (hl : (len : Int) ≤ 1048576) :
    Calls Try.prog 4 #[.slice a len cap] w fun e w' => e = .returned (.bool true) ∧ Below w.heap.size w w' := by
  have HK := hid_of hK
  clear hK
  go_enter Try.func4, Try.ntmps4
  go_wp2_with fail
  refine (big_no a len cap _ hl).mono ?_
  rintro e w0 ⟨rfl, rfl⟩
  go_wp2_with fail
  refine (draw_paeth13 a len cap w0.heap.size w0 HK.out (by omega) (Nat.le_refl _)).mono ?_
  rintro e w1 ⟨x, y, z, rfl, hx, hy, hz, hB⟩
  have HB := hid_of hB
  clear hB HK
  have hp := fun W => hPa x y z W (wf13 (by omega)) (wf13 (by omega)) (wf13 (by omega))
  have hs := fun W => specPaeth x y z W
  clear hPa
  by_cases h : PR y
  · have hv : paethV x y z = paeth x y z := if_pos ⟨⟨by omega, by omega⟩, h, ⟨by omega, by omega⟩⟩
    rw [hv] at hp hs
    have h1 := paeth_one x y z
    have hn := paeth_near x y z
    unfold PR at h
    generalize paeth x y z = v at *
    have hvr : -1001 ≤ v ∧ v ≤ 1001 := by omega
    have dy0 : decide (y < -1000) = false := decide_eq_false (by omega)
    have dy1 : decide ((1000 : Int) < y) = false := decide_eq_false (by omega)
    have HN := hid_of hn
    have H1 := hid_of h1
    clear hn h1 hv
    obtain ⟨N, hN⟩ : ∃ N, N = siz (x + y - z - v) := ⟨_, rfl⟩
    rw [← hN] at HN
    have hNr : 0 ≤ N ∧ N ≤ 10000 := by rw [hN]; unfold siz; split <;> omega
    by_cases hneg : x + y - z - v < 0
    · have dneg : decide (x + y - z - v < 0) = true := decide_eq_true hneg
      have hNv : -(x + y - z - v) = N := by rw [hN, siz_neg hneg]
      clear hN
      go_wp2_with fail
      refine (hp _).mono ?_
      rintro e w2 ⟨rfl, hB2⟩
      have HB2 := hid_of (bnext HB.out hB2)
      clear hB2
      go_wp2_with fail
      refine (hs _).mono ?_
      rintro e w3 ⟨rfl, rfl⟩
      go_wp2_with fail
      go_loop [10] (fun i => ∃ j : Nat, j ≤ 3 ∧ i = .int .i64 (j : Int)) (fun i => 3 - (intOf i).toNat)
      case atStart => exact ⟨0, by omega, rfl⟩
      case round =>
        obtain ⟨j, hj, rfl⟩ := hrel
        have hj4 : j = 0 ∨ j = 1 ∨ j = 2 ∨ j = 3 := by omega
        rcases hj4 with rfl | rfl | rfl | rfl
        · have hne := HN.out.1
          by_cases hd : x + y - z - x < 0
          · have dd : decide (x + y - z - x < 0) = true := decide_eq_true hd
            rw [siz_neg hd] at hne
            have de : decide (-(x + y - z - x) < N) = false := decide_eq_false (by omega)
            go_wp2_with fail
            go_round
            case rel => exact ⟨1, by omega, by go_num⟩
            case measure => simp [intOf]
          · have dd : decide (x + y - z - x < 0) = false := decide_eq_false hd
            rw [siz_pos hd] at hne
            have de : decide (x + y - z - x < N) = false := decide_eq_false (by omega)
            go_wp2_with fail
            go_round
            case rel => exact ⟨1, by omega, by go_num⟩
            case measure => simp [intOf]
        · have hne := HN.out.2.1
          by_cases hd : x + y - z - y < 0
          · have dd : decide (x + y - z - y < 0) = true := decide_eq_true hd
            rw [siz_neg hd] at hne
            have de : decide (-(x + y - z - y) < N) = false := decide_eq_false (by omega)
            go_wp2_with fail
            go_round
            case rel => exact ⟨2, by omega, by go_num⟩
            case measure => simp [intOf]
          · have dd : decide (x + y - z - y < 0) = false := decide_eq_false hd
            rw [siz_pos hd] at hne
            have de : decide (x + y - z - y < N) = false := decide_eq_false (by omega)
            go_wp2_with fail
            go_round
            case rel => exact ⟨2, by omega, by go_num⟩
            case measure => simp [intOf]
        · have hne := HN.out.2.2
          by_cases hd : x + y - z - z < 0
          · have dd : decide (x + y - z - z < 0) = true := decide_eq_true hd
            rw [siz_neg hd] at hne
            have de : decide (-(x + y - z - z) < N) = false := decide_eq_false (by omega)
            go_wp2_with fail
            go_round
            case rel => exact ⟨3, by omega, by go_num⟩
            case measure => simp [intOf]
          · have dd : decide (x + y - z - z < 0) = false := decide_eq_false hd
            rw [siz_pos hd] at hne
            have de : decide (x + y - z - z < N) = false := decide_eq_false (by omega)
            go_wp2_with fail
            go_round
            case rel => exact ⟨3, by omega, by go_num⟩
            case measure => simp [intOf]
        · have HBE : Hid (Below w0.heap.size w0 w3) := HB2
          by_cases v0 : v = x
          · have e0 : (v == x) = true := beq_iff_eq.2 v0
            go_wp2_with fail
            go_ret
            exact ⟨rfl, bal HBE.out _⟩
          have e0 := beq_no13 v0
          by_cases v1 : v = y
          · have e1 : (v == y) = true := beq_iff_eq.2 v1
            go_wp2_with fail
            go_ret
            exact ⟨rfl, bal HBE.out _⟩
          have e1 := beq_no13 v1
          have v2 : v = z := by rcases H1.out with q | q | q <;> first | exact q | exact absurd q v0 | exact absurd q v1
          have e2 : (v == z) = true := beq_iff_eq.2 v2
          go_wp2_with fail
          go_ret
          exact ⟨rfl, bal HBE.out _⟩
    · have dneg : decide (x + y - z - v < 0) = false := decide_eq_false hneg
      have hNv : x + y - z - v = N := by rw [hN, siz_pos hneg]
      clear hN
      go_wp2_with fail
      refine (hp _).mono ?_
      rintro e w2 ⟨rfl, hB2⟩
      have HB2 := hid_of (bnext HB.out hB2)
      clear hB2
      go_wp2_with fail
      refine (hs _).mono ?_
      rintro e w3 ⟨rfl, rfl⟩
      go_wp2_with fail
      go_loop [10] (fun i => ∃ j : Nat, j ≤ 3 ∧ i = .int .i64 (j : Int)) (fun i => 3 - (intOf i).toNat)
      case atStart => exact ⟨0, by omega, rfl⟩
      case round =>
        obtain ⟨j, hj, rfl⟩ := hrel
        have hj4 : j = 0 ∨ j = 1 ∨ j = 2 ∨ j = 3 := by omega
        rcases hj4 with rfl | rfl | rfl | rfl
        · have hne := HN.out.1
          by_cases hd : x + y - z - x < 0
          · have dd : decide (x + y - z - x < 0) = true := decide_eq_true hd
            rw [siz_neg hd] at hne
            have de : decide (-(x + y - z - x) < N) = false := decide_eq_false (by omega)
            go_wp2_with fail
            go_round
            case rel => exact ⟨1, by omega, by go_num⟩
            case measure => simp [intOf]
          · have dd : decide (x + y - z - x < 0) = false := decide_eq_false hd
            rw [siz_pos hd] at hne
            have de : decide (x + y - z - x < N) = false := decide_eq_false (by omega)
            go_wp2_with fail
            go_round
            case rel => exact ⟨1, by omega, by go_num⟩
            case measure => simp [intOf]
        · have hne := HN.out.2.1
          by_cases hd : x + y - z - y < 0
          · have dd : decide (x + y - z - y < 0) = true := decide_eq_true hd
            rw [siz_neg hd] at hne
            have de : decide (-(x + y - z - y) < N) = false := decide_eq_false (by omega)
            go_wp2_with fail
            go_round
            case rel => exact ⟨2, by omega, by go_num⟩
            case measure => simp [intOf]
          · have dd : decide (x + y - z - y < 0) = false := decide_eq_false hd
            rw [siz_pos hd] at hne
            have de : decide (x + y - z - y < N) = false := decide_eq_false (by omega)
            go_wp2_with fail
            go_round
            case rel => exact ⟨2, by omega, by go_num⟩
            case measure => simp [intOf]
        · have hne := HN.out.2.2
          by_cases hd : x + y - z - z < 0
          · have dd : decide (x + y - z - z < 0) = true := decide_eq_true hd
            rw [siz_neg hd] at hne
            have de : decide (-(x + y - z - z) < N) = false := decide_eq_false (by omega)
            go_wp2_with fail
            go_round
            case rel => exact ⟨3, by omega, by go_num⟩
            case measure => simp [intOf]
          · have dd : decide (x + y - z - z < 0) = false := decide_eq_false hd
            rw [siz_pos hd] at hne
            have de : decide (x + y - z - z < N) = false := decide_eq_false (by omega)
            go_wp2_with fail
            go_round
            case rel => exact ⟨3, by omega, by go_num⟩
            case measure => simp [intOf]
        · have HBE : Hid (Below w0.heap.size w0 w3) := HB2
          by_cases v0 : v = x
          · have e0 : (v == x) = true := beq_iff_eq.2 v0
            go_wp2_with fail
            go_ret
            exact ⟨rfl, bal HBE.out _⟩
          have e0 := beq_no13 v0
          by_cases v1 : v = y
          · have e1 : (v == y) = true := beq_iff_eq.2 v1
            go_wp2_with fail
            go_ret
            exact ⟨rfl, bal HBE.out _⟩
          have e1 := beq_no13 v1
          have v2 : v = z := by rcases H1.out with q | q | q <;> first | exact q | exact absurd q v0 | exact absurd q v1
          have e2 : (v == z) = true := beq_iff_eq.2 v2
          go_wp2_with fail
          go_ret
          exact ⟨rfl, bal HBE.out _⟩
  · have hv : paethV x y z = 0 := if_neg (fun q => h q.2.1)
    rw [hv] at hp hs
    unfold PR at h
    by_cases hlow : y < -1000
    · have dy0 : decide (y < -1000) = true := decide_eq_true hlow
      clear h hv
      go_wp2_with fail
      refine (hp _).mono ?_
      rintro e w2 ⟨rfl, hB2⟩
      have HB2 := hid_of (bnext HB.out hB2)
      clear hB2
      go_wp2_with fail
      refine (hs _).mono ?_
      rintro e w3 ⟨rfl, rfl⟩
      go_wp2_with fail
      go_ret
      exact ⟨rfl, HB2.out⟩
    · have dy0 : decide (y < -1000) = false := decide_eq_false hlow
      have dy1 : decide ((1000 : Int) < y) = true := decide_eq_true (by omega)
      clear h hv
      go_wp2_with fail
      refine (hp _).mono ?_
      rintro e w2 ⟨rfl, hB2⟩
      have HB2 := hid_of (bnext HB.out hB2)
      clear hB2
      go_wp2_with fail
      refine (hs _).mono ?_
      rintro e w3 ⟨rfl, rfl⟩
      go_wp2_with fail
      go_ret
      exact ⟨rfl, HB2.out⟩
theorem FnPaeth_over (hPa : PaethAnswer) (a : Option Addr) (len cap : Nat) (zs : List Int) (w : World) (hr : IsRow .u8 w a len cap zs) :
    Calls Try.prog 4 #[.slice a len cap] w fun e w' => e = .returned (.bool true) ∧ Below w.heap.size w w' := by
  obtain ⟨hC, hl, hc⟩ := codeAt_of_row hr
  unfold maxLen at hc
  by_cases h : (len : Int) ≤ 1048576
  · exact FnPaeth_at hPa a len cap w hC h
  · have d : (1048576 : Int) < len := by omega
    clear hr hC hPa
    go_enter Try.func4, Try.ntmps4
    go_wp2_with fail
    refine (big_yes a len cap _ d (by omega)).mono ?_
    rintro e w1 ⟨rfl, rfl⟩
    go_wp2_with fail
    go_ret
    exact ⟨rfl, Below.refl _ _⟩
end Go.Proofs.Ytccjjpdhojmcgaa
