/-
  The walk of the law FnCodes, over what the program's CodeKind and CodesOf answer.
-/
import Derived.Test.YtbfjgkoohdknnaaRows
import Derived.Test.YtbfjgkoohdknnaaBase
import Derived.Test.YtbfjgkoohdknnaaOutMath
import Derived.Test.YtbfjgkoohdknnaaCodeMath
import Derived.Test.YtbfjgkoohdknnaaTakeMath
import Derived.Test.YtbfjgkoohdknnaaHitMath
import Derived.Test.YtbfjgkoohdknnaaOwnLib
import Derived.Test.YtbfjgkoohdknnaaRowLib
import Derived.Test.YtbfjgkoohdknnaaIntsLib
import Derived.Test.YtbfjgkoohdknnaaDrawLib
import Derived.Test.YtbfjgkoohdknnaaDrawCodesOf
import Derived.Test.YtbfjgkoohdknnaaCodeSpec
import Derived.Test.YtbfjgkoohdknnaaKindAns
import Derived.Test.YtbfjgkoohdknnaaCodesAns
import Derived.WalkKit
import Derived.ProofKit
import Derived.WalkLawsBesides
import Derived.Deep.QuietTactic
import Derived.BigQuiet
import Derived.OpenShut
import Derived.Below
import Derived.Lib.SmallJoins
namespace Go.Proofs.Ytbfjgkoohdknnaa
open Go.RowKit Go.Joins OutMath CodeMath HitMath

theorem wf_small {x : Int} (h0 : -100 ≤ x) (h1 : x ≤ 100) : (Lit.int .i64 x).wf = true := by
  simp [Lit.wf, IntKind.min, IntKind.max, IntKind.bits, IntKind.signed]
  omega

/-- What lasts through the rings of FnCodes. -/
def CodesHeld (w w' : World) (g gc n cap cc : Nat) (f : Nat → Int) : Prop := Below w.heap.size w w' ∧ IOwn w' w.heap.size g n cap f ∧ IOwn w' w.heap.size gc n cc (codeOf f n)
theorem CodesHeld.drewN {w w' : World} {g gc n cap cc : Nat} {f : Nat → Int} (h : CodesHeld w w' g gc n cap cc f) (q : Nat) : CodesHeld w (w'.drewN q) g gc n cap cc f := ⟨bdraws h.1 q, h.2.1.keep rfl, h.2.2.keep rfl⟩

set_option maxRecDepth 4000 in
set_option maxHeartbeats 1600000 in
theorem FnCodes_at (hK : KindAnswer) (hA : CodesAnswer) (a : Option Addr) (len cap : Nat) (w : World) (hk : CodeAt w w.heap.size a len) (hlen : (len : Int) ≤ 1048576) :
    Calls Try.prog 4 #[.slice a len cap] w fun e w' => e = .returned (.bool true) ∧ Below w.heap.size w w' := by
  have HK : Hid KindAnswer := hK
  have HA : Hid CodesAnswer := hA
  have HD : Hid (CodeAt w w.heap.size a len) := hk
  clear hK hA hk
  go_enter Try.func4, Try.ntmps4
  go_wp2_with fail
  refine (big_no a len cap _ hlen).mono ?_
  rintro e w0 ⟨rfl, hw0⟩
  obtain rfl : w = w0 := hw0.symm
  clear hw0
  go_wp2_with fail
  refine (draw_codesOf a len cap _ _ HD.out (by omega) (Nat.le_refl _)).mono ?_
  rintro e w1 ⟨g, n, c, f, rfl, hn1, hn2, hO1, hf, hB1⟩
  have HF : Hid (∀ i, i < n → (Lit.int .i64 (f i)).wf = true) := fun i hi => wf_small (hf i hi).1 (hf i hi).2
  have HO1 : Hid (IOwn w1 w.heap.size g n c f) := hO1
  have HB1 : Hid (Below w.heap.size w w1) := hB1
  clear hO1 hB1 hf
  go_wp2_with fail
  by_cases hG : Coded f n
  · refine ((HA.out _ n c f w1 HO1.out.sl.came (by omega) HF.out).1 hG).mono ?_
    rintro e w2 ⟨a2, c2, rfl, hS2, hB2⟩
    obtain ⟨gc, rfl, hO2⟩ : ∃ gc, a2 = some ⟨gc, 0, none⟩ ∧ IOwn w2 w1.heap.size gc n c2 (codeOf f n) := by
      rcases hS2 with h | h
      · omega
      · exact h
    have HC2 : Hid (CodesHeld w w2 g gc n c c2 f) := ⟨bnext HB1.out hB2, HO1.out.called hB2, hO2.mono HB1.out.size⟩
    have HG : Hid (Coded f n) := hG
    clear hS2 hB2 hO2 HB1 HO1
    go_wp2_with fail
    refine (specKind _ n c f w2 HC2.out.2.1.sl.came (by omega)).mono ?_
    rintro e w3 ⟨k, rfl, hkk, hw3⟩
    obtain rfl : w2 = w3 := hw3.symm
    obtain ⟨k0, k5⟩ := kind_good hkk HG.out
    have d0 : (k != 0) = true := by simpa using k0
    have d5 : (k != 5) = true := by simpa using k5
    have HKK : Hid (Kind f n k) := hkk
    clear hw3 hkk k0 k5
    go_wp2_with fail
    refine (HK.out _ n c f w2 HC2.out.2.1.sl.came (by omega) HF.out).mono ?_
    rintro e w3 ⟨k', rfl, hk', hB3⟩
    obtain rfl : k' = k := kind_one hk' HKK.out
    have HC3 : Hid (CodesHeld w w3 g gc n c c2 f) := ⟨bnext HC2.out.1 hB3, HC2.out.2.1.called hB3, HC2.out.2.2.called hB3⟩
    clear hk' hB3 HC2
    go_wp2_with fail
    go_loopw [7] (fun z w' => ∃ i : Nat, i ≤ n ∧ z = .int .i64 i ∧ Hid (CodesHeld w w' g gc n c c2 f)) (fun z _ => n - (intOf z).toNat)
    case atStart => exact ⟨0, by omega, rfl, HC3⟩
    case round =>
      clear HC3
      obtain ⟨i, hi, rfl, hH⟩ := hrel
      by_cases hlt : i < n
      · go_wp2_with fail
        go_loopw [8] (fun z w' => ∃ j : Nat, j ≤ n ∧ z = .int .i64 j ∧ Hid (CodesHeld w w' g gc n c c2 f)) (fun z _ => n - (intOf z).toNat)
        case atStart => exact ⟨0, by omega, rfl, hH⟩
        case round =>
          clear hH
          obtain ⟨j, hj, rfl, hH⟩ := hrel
          by_cases hlt2 : j < n ∧ j < 40
          · obtain ⟨hj1, hj2⟩ := hlt2
            have a1 := hH.out.2.1.cell i hlt
            have a2 := hH.out.2.1.cell j hj1
            have b1 := hH.out.2.2.cell i hlt
            have b2 := hH.out.2.2.cell j hj1
            have fi := HG.out.2.1 i hlt
            have fj := HG.out.2.1 j hj1
            have ci := code_lt HG.out hlt
            have cj := code_lt HG.out hj1
            have l1 := hH.out.2.1.lt
            have l2 := hH.out.2.2.lt
            by_cases q1 : i = j
            · subst q1
              have d1 : ((i : Int) == (i : Int)) = true := by simp
              go_wp2_with fail
              go_quiet (fail)
              go_wp2_with fail
              go_roundw
              case rel => exact ⟨i + 1, by omega, by go_num, hH.out.drewN nq⟩
              case measure => simp [intOf]; omega
            · have d1 : ((i : Int) == (j : Int)) = false := beq_eq_false_iff_ne.mpr (by omega)
              by_cases q2 : f i = 0
              · have d2 : (f i == 0) = true := by simpa using q2
                clear q2
                go_wp2_with fail
                go_quiet (fail)
                go_wp2_with fail
                go_roundw
                case rel => exact ⟨j + 1, by omega, by go_num, hH.out.drewN nq⟩
                case measure => simp [intOf]; omega
              · have d2 : (f i == 0) = false := by simpa using q2
                by_cases q3 : f j = 0
                · have d3 : (f j == 0) = true := by simpa using q3
                  clear q3 q2
                  go_wp2_with fail
                  go_quiet (fail)
                  go_wp2_with fail
                  go_roundw
                  case rel => exact ⟨j + 1, by omega, by go_num, hH.out.drewN nq⟩
                  case measure => simp [intOf]; omega
                · have d3 : (f j == 0) = false := by simpa using q3
                  by_cases q4 : f j < f i
                  · have d4 : decide (f j < f i) = true := by simpa using q4
                    clear q2 q3
                    go_wp2_with fail
                    go_quiet (fail)
                    go_wp2_with fail
                    go_roundw
                    case rel => exact ⟨j + 1, by omega, by go_num, hH.out.drewN nq⟩
                    case measure => simp [intOf]; omega
                  · have d4 : decide (f j < f i) = false := by simpa using q4
                    have HNE : Hid (¬ codeOf f n j / p2 (f j - f i).toNat = codeOf f n i) := fun e => q1 (prefix_free (k := (f i).toNat) (d := (f j - f i).toNat) hlt hj1 (by omega) (by omega) (by omega) e)
                    have d5 : (codeOf f n j / 2 ^ (f j - f i).toNat == codeOf f n i) = false := beq_eq_false_iff_ne.mpr HNE.out
                    have e1 : IntKind.i64.wrap (f j - f i) = f j - f i := by rw [IntKind.wrap_i64]; omega
                    clear q2 q3 q1
                    go_wp2_with fail
                    go_quiet (fail)
                    go_wp2_with fail
                    go_quiet (fail)
                    go_wp2_with fail
                    go_roundw
                    case rel => exact ⟨j + 1, by omega, by go_num, hH.out.drewN _⟩
                    case measure => simp [intOf]; omega
          · by_cases hj1 : j < n
            · have hj40 : ¬ j < 40 := fun h => hlt2 ⟨hj1, h⟩
              have d1 : decide ((j : Int) < 40) = false := by simp; omega
              clear hlt2
              go_wp2_with fail
              go_roundw
              case rel => exact ⟨i + 1, by omega, by go_num, hH⟩
              case measure => simp [intOf]; omega
            · clear hlt2
              go_wp2_with fail
              go_roundw
              case rel => exact ⟨i + 1, by omega, by go_num, hH⟩
              case measure => simp [intOf]; omega
      · go_wp2_with fail
        go_ret
        exact ⟨rfl, hH.out.1⟩
  · refine ((HA.out _ n c f w1 HO1.out.sl.came (by omega) HF.out).2 hG).mono ?_
    rintro e w2 ⟨a2, c2, rfl, hB2⟩
    have HO2 : Hid (IOwn w2 w.heap.size g n c f) := HO1.out.called hB2
    have HB2 : Hid (Below w.heap.size w w2) := bnext HB1.out hB2
    have HG : Hid (¬ Coded f n) := hG
    clear hB2 HB1 HO1 hG
    go_wp2_with fail
    refine (specKind _ n c f w2 HO2.out.sl.came (by omega)).mono ?_
    rintro e w3 ⟨k, rfl, hkk, hw3⟩
    obtain rfl : w2 = w3 := hw3.symm
    have HKK : Hid (Kind f n k) := hkk
    rcases kind_bad hkk HG.out with rfl | rfl
    · clear hkk hw3
      go_wp2_with fail
      refine (HK.out _ n c f w2 HO2.out.sl.came (by omega) HF.out).mono ?_
      rintro e w3 ⟨k', rfl, hk', hB3⟩
      obtain rfl : k' = 0 := kind_one hk' HKK.out
      go_wp2_with fail
      go_ret
      exact ⟨rfl, bnext HB2.out hB3⟩
    · clear hkk hw3
      go_wp2_with fail
      refine (HK.out _ n c f w2 HO2.out.sl.came (by omega) HF.out).mono ?_
      rintro e w3 ⟨k', rfl, hk', hB3⟩
      obtain rfl : k' = 5 := kind_one hk' HKK.out
      go_wp2_with fail
      go_ret
      exact ⟨rfl, bnext HB2.out hB3⟩

theorem FnCodes_over (hK : KindAnswer) (hA : CodesAnswer) (a : Option Addr) (len cap : Nat) (zs : List Int) (w : World) (hr : IsRow .u8 w a len cap zs) :
    Calls Try.prog 4 #[.slice a len cap] w fun e w' => e = .returned (.bool true) ∧ Below w.heap.size w w' := by
  obtain ⟨hC, hl, hc⟩ := codeAt_of_row hr
  unfold maxLen at hc
  by_cases h : (len : Int) ≤ 1048576
  · exact FnCodes_at hK hA a len cap w hC h
  · have d : (1048576 : Int) < len := by omega
    clear hr hC hA hK
    go_enter Try.func4, Try.ntmps4
    go_wp2_with fail
    refine (big_yes a len cap _ d (by omega)).mono ?_
    rintro e w1 ⟨rfl, rfl⟩
    go_wp2_with fail
    go_ret
    exact ⟨rfl, Below.refl _ _⟩

end Go.Proofs.Ytbfjgkoohdknnaa
