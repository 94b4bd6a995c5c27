/-
  The law FnFilters over what the program's functions answer.
-/
import Derived.Test.YtholkigomokimaaRows
import Derived.Test.YtholkigomokimaaBase
import Derived.Test.YtholkigomokimaaOwnLib
import Derived.Test.YtholkigomokimaaRowLib
import Derived.Test.YtholkigomokimaaDrawLib
import Derived.Test.YtholkigomokimaaDrawFilt
import Derived.Test.YtholkigomokimaaFiltMath
import Derived.Test.YtholkigomokimaaFiltVal
import Derived.Test.YtholkigomokimaaFiltAns
import Derived.Test.YtholkigomokimaaFiltBest
import Derived.WalkKit
import Derived.ProofKit
import Derived.OpenShut
import Derived.Below
import Derived.Deep.LoopGhost
import Derived.Lib.SmallJoins
namespace Go.Proofs.Ytholkigomokimaa
open Go.RowKit Go.Joins TakeMath FiltMath

theorem bestV_in {R A : ByteArray} {x : Int} (h : FiltR 0 R A x) : bestV R A x = (least (wk R A x.toNat) 4 : Nat) := if_pos h
theorem bestV_out {R A : ByteArray} {x : Int} (h : ¬ FiltR 0 R A x) : bestV R A x = 0 := if_neg h
set_option maxHeartbeats 3200000 in
theorem FnFilters_at (hBe : BestFAnswer) (hFi : FilterAnswer) (hUn : UnfilterAnswer) (hWe : WeightAnswer) (a : Option Addr) (len cap : Nat) (w : World) (hK : CodeAt w w.heap.size a len) (hl : (len : Int) ≤ 1048576) :
    Calls Try.prog 4 #[.slice a len cap] w fun e w' => e = .returned (.bool true) ∧ Below w.heap.size w w' := by
  have HK := hid_of hK
  clear hK
  go_enter Try.func4, Try.ntmps4
  go_wp2_with fail
  refine (big_no a len cap _ hl).mono ?_
  rintro e w0 ⟨rfl, rfl⟩
  go_wp2_with fail
  refine (draw_bestFilter a len cap w0.heap.size w0 HK.out (by omega) (Nat.le_refl _)).mono ?_
  rintro e w1 ⟨R, A, x, rfl, hR, hA, hx, hB⟩
  have HB := hid_of hB
  clear hB HK
  have hs0 := fun W => specFilter 0 R A x W (by omega)
  have hb0 := fun W => hBe R A x W hx (by omega) (by omega)
  by_cases h : FiltR 0 R A x
  · rw [decide_eq_true h] at hs0 hb0
    rw [bestV_in h] at hb0
    have hb4 := least_le (wk R A x.toNat) 4
    have HM : Hid (∀ k, k ≤ 4 → wk R A x.toNat (least (wk R A x.toNat) 4) ≤ wk R A x.toNat k) := fun k hk => least_min _ 4 k hk
    obtain ⟨Bt, hBt⟩ : ∃ Bt, Bt = least (wk R A x.toNat) 4 := ⟨_, rfl⟩
    rw [← hBt] at hb0 hb4 HM
    have hf : ∀ k : Nat, k ≤ 4 → ∀ W : World, Calls Try.prog 20 #[.int .i64 (k : Int), .string R, .string A, .int .i64 x] W fun e w' => e = .returned (.tuple #[.string (filtT (k : Int) R A x.toNat), .bool true]) ∧ Below W.heap.size W w' := fun k hk W => by
      have h2 := hFi (k : Int) R A x W (wf13 (by omega)) hx (by omega) (by omega)
      have h3 : FiltR (k : Int) R A x := h.kind (by omega)
      rw [decide_eq_true h3, show filtV (k : Int) R A x = filtT (k : Int) R A x.toNat from if_pos h3] at h2
      exact h2
    have hu : ∀ k : Nat, k ≤ 4 → ∀ W : World, Calls Try.prog 21 #[.int .i64 (k : Int), .string (filtT (k : Int) R A x.toNat), .string A, .int .i64 x] W fun e w' => e = .returned (.tuple #[.string R, .bool true]) ∧ Below W.heap.size W w' := fun k hk W => by
      have h3 : FiltR (k : Int) R A x := h.kind (by omega)
      have h4 := back_right h3
      rw [show filtV (k : Int) R A x = filtT (k : Int) R A x.toNat from if_pos h3] at h4
      have h2 := hUn (k : Int) (filtT (k : Int) R A x.toNat) A x W (wf13 (by omega)) hx (by rw [filtT_size]; omega) (by omega)
      rw [decide_eq_true h4.1, h4.2] at h2
      exact h2
    have hw : ∀ k : Nat, ∀ W : World, Calls Try.prog 22 #[.string (filtT (k : Int) R A x.toNat)] W fun e w' => e = .returned (.int .i64 (wk R A x.toNat k)) ∧ Below W.heap.size W w' := fun k W => hWe _ W (by rw [filtT_size]; omega)
    have hwr := fun k => wk_range R A x.toNat k h.2.2.2
    have hfb := hf Bt hb4
    have hwb := hw Bt
    have hrb := hwr Bt
    obtain ⟨M, hM⟩ : ∃ M, M = wk R A x.toNat Bt := ⟨_, rfl⟩
    rw [← hM] at hwb hrb HM
    have HF := hid_of hf
    have HU := hid_of hu
    have HW := hid_of hw
    have HR := hid_of hwr
    generalize filtT (Bt : Int) R A x.toNat = L at hfb hwb
    clear hf hu hw hwr hM hBt h hBe hFi hUn hWe
    go_wp2_with fail
    refine (hs0 _).mono ?_
    rintro e w2 ⟨rfl, hB2⟩
    have HB2 := hid_of (bnext HB.out hB2)
    clear hB2
    go_wp2_with fail
    refine (hb0 _).mono ?_
    rintro e w3 ⟨rfl, hB3⟩
    have HB3 := hid_of (bnext HB2.out hB3)
    clear hB3
    go_wp2_with fail
    refine (hfb _).mono ?_
    rintro e w4 ⟨rfl, hB4⟩
    have HB4 := hid_of (bnext HB3.out hB4)
    clear hB4
    go_wp2_with fail
    go_loopg [12] 6 (fun gk i w' => ∃ j : Nat, j ≤ 5 ∧ 5 - j ≤ gk ∧ i = .int .i64 (j : Int) ∧ Hid (Below w0.heap.size w0 w'))
    case atStart => exact ⟨0, by omega, by omega, rfl, HB4⟩
    case round =>
      obtain ⟨j, hj, hgk, rfl, hS⟩ := hrel
      by_cases hlt : j < 5
      · have dl : decide ((j : Int) < 5) = true := decide_eq_true (by omega)
        have dl2 : decide (j < 5) = true := decide_eq_true hlt
        have hfj := HF.out j (by omega)
        have huj := HU.out j (by omega)
        have hwj := HW.out j
        have hrj := HR.out j
        have hmj := HM.out j (by omega)
        generalize filtT (j : Int) R A x.toNat = T at hfj huj hwj
        generalize wk R A x.toNat j = X at hwj hrj hmj
        have e1 : decide (X < M) = false := decide_eq_false (by omega)
        have e2 : decide (X < 0) = false := decide_eq_false (by omega)
        clear HF HU HW HR HM
        go_wp2_with fail
        refine (hfj _).mono ?_
        rintro e w5 ⟨rfl, hB5⟩
        have HB5 := hid_of (bnext hS.out hB5)
        clear hB5
        go_wp2_with fail
        refine (huj _).mono ?_
        rintro e w6 ⟨rfl, hB6⟩
        have HB6 := hid_of (bnext HB5.out hB6)
        clear hB6
        go_wp2_with fail
        refine (hwj _).mono ?_
        rintro e w7 ⟨rfl, hB7⟩
        have HB7 := hid_of (bnext HB6.out hB7)
        clear hB7
        go_wp2_with fail
        refine (hwb _).mono ?_
        rintro e w8 ⟨rfl, hB8⟩
        have HB8 := hid_of (bnext HB7.out hB8)
        clear hB8
        go_wp2_with fail
        refine (hwj _).mono ?_
        rintro e w9 ⟨rfl, hB9⟩
        have HB9 := hid_of (bnext HB8.out hB9)
        clear hB9
        go_wp2_with fail
        go_roundg (5 - (j + 1))
        case measure => omega
        case rel => exact ⟨j + 1, by omega, by omega, by go_num, HB9⟩
      · obtain rfl : j = 5 := by omega
        have dl : decide (((5 : Nat) : Int) < 5) = false := decide_eq_false (by omega)
        clear HF HU HW HR HM
        go_wp2_with fail
        go_ret
        exact ⟨rfl, hS.out⟩
  · rw [decide_eq_false h] at hs0 hb0
    rw [bestV_out h] at hb0
    clear h hBe hFi hUn hWe
    go_wp2_with fail
    refine (hs0 _).mono ?_
    rintro e w2 ⟨rfl, hB2⟩
    have HB2 := hid_of (bnext HB.out hB2)
    clear hB2
    go_wp2_with fail
    refine (hb0 _).mono ?_
    rintro e w3 ⟨rfl, hB3⟩
    have HB3 := hid_of (bnext HB2.out hB3)
    clear hB3
    go_wp2_with fail
    go_ret
    exact ⟨rfl, HB3.out⟩
theorem FnFilters_over (hBe : BestFAnswer) (hFi : FilterAnswer) (hUn : UnfilterAnswer) (hWe : WeightAnswer) (a : Option Addr) (len cap : Nat) (zs : List Int) (w : World) (hr : IsRow .u8 w a len cap zs) :
    Calls Try.prog 4 #[.slice a len cap] w fun e w' => e = .returned (.bool true) ∧ Below w.heap.size w w' := by
  obtain ⟨hC, hl, hc⟩ := codeAt_of_row hr
  unfold maxLen at hc
  by_cases h : (len : Int) ≤ 1048576
  · exact FnFilters_at hBe hFi hUn hWe a len cap w hC h
  · have d : (1048576 : Int) < len := by omega
    clear hr hC hBe hFi hUn hWe
    go_enter Try.func4, Try.ntmps4
    go_wp2_with fail
    refine (big_yes a len cap _ d (by omega)).mono ?_
    rintro e w1 ⟨rfl, rfl⟩
    go_wp2_with fail
    go_ret
    exact ⟨rfl, Below.refl _ _⟩
end Go.Proofs.Ytholkigomokimaa
