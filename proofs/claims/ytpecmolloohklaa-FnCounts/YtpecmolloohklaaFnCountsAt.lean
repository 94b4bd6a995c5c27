/-
  The walk of the law FnCounts, over what the program's CountsOf answers.
-/
import Derived.Test.YtpecmolloohklaaRows
import Derived.Test.YtpecmolloohklaaBase
import Derived.Test.YtpecmolloohklaaCodeMath
import Derived.Test.YtpecmolloohklaaOwnLib
import Derived.Test.YtpecmolloohklaaRowLib
import Derived.Test.YtpecmolloohklaaIntsLib
import Derived.Test.YtpecmolloohklaaDrawLib
import Derived.Test.YtpecmolloohklaaDrawCounts
import Derived.Test.YtpecmolloohklaaCountsAns
import Derived.Test.YtpecmolloohklaaCountsSpec
import Derived.WalkKit
import Derived.ProofKit
import Derived.WalkLawsBesides
import Derived.Below
import Derived.Lib.SmallJoins
namespace Go.Proofs.Ytpecmolloohklaa
open Go.RowKit Go.Joins CodeMath

/-- The counts of the numbers below s, together. -/
def sC (f : Nat → Int) (n : Nat) : Nat → Int
  | 0 => 0
  | s + 1 => sC f n s + cntS f (s : Nat) n
theorem sC_bd (f : Nat → Int) (n : Nat) (hn : n ≤ 300) : ∀ s : Nat, 0 ≤ sC f n s ∧ sC f n s ≤ 300 * s
  | 0 => by simp [sC]
  | s + 1 => by
    have h := sC_bd f n hn s
    have h2 := cntS_bd f (s : Nat) n
    show 0 ≤ sC f n s + cntS f (s : Nat) n ∧ sC f n s + cntS f (s : Nat) n ≤ _
    omega
theorem sC_step (f : Nat → Int) (n : Nat) : ∀ k : Nat, sC f (n + 1) k = sC f n k + (if 0 ≤ f n ∧ f n < k then 1 else 0)
  | 0 => by
    rw [if_neg (by omega)]
    rfl
  | k + 1 => by
    have h := sC_step f n k
    show sC f (n + 1) k + (cntS f (k : Nat) n + (if f n = (k : Nat) then 1 else 0)) = sC f n k + cntS f (k : Nat) n + _
    rw [h]
    by_cases e : f n = (k : Nat)
    · rw [if_pos e, if_neg (by omega), if_pos (by omega)]; omega
    · by_cases e2 : 0 ≤ f n ∧ f n < k
      · rw [if_neg e, if_pos e2, if_pos (by omega)]; omega
      · rw [if_neg e, if_neg e2, if_neg (by omega)]; omega
theorem sC_none (f : Nat → Int) : ∀ k : Nat, sC f 0 k = 0
  | 0 => rfl
  | k + 1 => by show sC f 0 k + cntS f (k : Nat) 0 = 0; rw [sC_none f k]; rfl
theorem sC_full (f : Nat → Int) (k : Nat) : ∀ n : Nat, (∀ i, i < n → 0 ≤ f i ∧ f i ≤ (k : Int) - 1) → sC f n k = n
  | 0, _ => sC_none f k
  | n + 1, h => by
    have h1 := sC_full f k n (fun i hi => h i (by omega))
    have h2 := h n (by omega)
    rw [sC_step, h1, if_pos (by omega)]
    omega

theorem wf_count {x : Int} (h0 : -1 ≤ x) (h1 : x ≤ 20000) : (Lit.int .i64 x).wf = true := by
  simp [Lit.wf, IntKind.min, IntKind.max, IntKind.bits, IntKind.signed]
  omega

set_option maxHeartbeats 1600000 in
theorem FnCounts_at (hA : CountsAnswer) (a : Option Addr) (len cap : Nat) (w : World) (hk : CodeAt w w.heap.size a len) (hlen : (len : Int) ≤ 1048576) :
    Calls Try.prog 4 #[.slice a len cap] w fun e w' => e = .returned (.bool true) ∧ Below w.heap.size w w' := by
  have HA : Hid CountsAnswer := hA
  have HD : Hid (CodeAt w w.heap.size a len) := hk
  clear hA hk
  go_enter Try.func4, Try.ntmps4
  go_wp2_with fail
  refine (big_no a len cap _ hlen).mono ?_
  rintro e w0 ⟨rfl, hw0⟩
  obtain rfl : w = w0 := hw0.symm
  clear hw0
  go_wp2_with fail
  refine (draw_countsOf a len cap _ _ HD.out (by omega) (Nat.le_refl _)).mono ?_
  rintro e w1 ⟨g, n, c, f, z, rfl, hn, hz1, hz2, hO1, hf, hB1⟩
  have HF : Hid (∀ i, i < n → (Lit.int .i64 (f i)).wf = true) := fun i hi => wf_count (hf i hi).1 (hf i hi).2
  have HZ : Hid ((Lit.int .i64 z).wf = true) := wf_count hz1 (by omega)
  have HO1 : Hid (IOwn w1 w.heap.size g n c f) := hO1
  have HB1 : Hid (Below w.heap.size w w1) := hB1
  have HFB := hid_of hf
  clear hO1 hB1 hf HD
  go_wp2_with fail
  by_cases hG : CountsRight f n z
  · refine ((HA.out _ n c f z w1 HO1.out.sl.came (by omega) HF.out HZ.out).1 hG).mono ?_
    rintro e w2 ⟨a2, c2, rfl, hS2, hB2⟩
    obtain ⟨k, rfl⟩ := Int.eq_ofNat_of_zero_le (show 0 ≤ z by have := hG.1; omega)
    rw [Int.toNat_natCast] at hS2 ⊢
    have hk1 : 1 ≤ k := by have := hG.1; omega
    obtain ⟨gc, rfl, hO2⟩ : ∃ gc, a2 = some ⟨gc, 0, none⟩ ∧ IOwn w2 w1.heap.size gc k c2 (fun s => cntS f (s : Nat) n) := by
      rcases hS2 with h | h
      · omega
      · exact h
    have HB2 : Hid (Below w.heap.size w w2) := bnext HB1.out hB2
    have HO2 : Hid (IOwn w2 w.heap.size g n c f) := HO1.out.called hB2
    have HC2 : Hid (IOwn w2 w1.heap.size gc k c2 (fun s => cntS f (s : Nat) n)) := hO2
    have HG := hid_of hG
    clear hS2 hB2 hO2 HB1 HO1 HA
    go_wp2_with fail
    refine (specCounts_good _ n c f k w2 HO2.out.sl.came HG.out).mono ?_
    rintro e w3 ⟨rfl, _, hB3⟩
    have HB3 : Hid (Below w.heap.size w w3) := bnext HB2.out hB3
    have HO3 : Hid (IOwn w3 w.heap.size g n c f) := HO2.out.called hB3
    have HC3 : Hid (IOwn w3 w1.heap.size gc k c2 (fun s => cntS f (s : Nat) n)) := HC2.out.called hB3
    clear hB3 HB2 HO2 HC2 HFB hG
    go_wp2_with fail
    go_loop [9, 10] (fun x i => ∃ j : Nat, j ≤ k ∧ i = .int .i64 j ∧ x = .int .i64 (sC f n j)) (fun _ i => k - (intOf i).toNat)
    case atStart => exact ⟨0, by omega, rfl, rfl⟩
    case round =>
      obtain ⟨j, hj, rfl, rfl⟩ := hrel
      have hsb := sC_bd f n hn j
      by_cases hlt : j < k
      · have dj : decide ((j : Int) < (k : Int)) = true := decide_eq_true (by omega)
        have cc : w3.cell? ⟨gc, j, none⟩ = some (.int .i64 (cntS f (j : Nat) n)) := HC3.out.cell j hlt
        have lc := HC3.out.lt
        have hcb := cntS_bd f (j : Nat) n
        have HE : Hid (sC f n (j + 1) = sC f n j + cntS f (j : Nat) n) := rfl
        go_wp2_with fail
        go_loop [11, 12] (fun x i => ∃ q : Nat, q ≤ n ∧ i = .int .i64 q ∧ x = .int .i64 (cntS f (j : Nat) q)) (fun _ i => n - (intOf i).toNat)
        case atStart => exact ⟨0, by omega, rfl, rfl⟩
        case round =>
          obtain ⟨q, hq, rfl, rfl⟩ := hrel
          have hqb := cntS_bd f (j : Nat) q
          by_cases hlq : q < n
          · have dq : decide ((q : Int) < (n : Int)) = true := decide_eq_true (by omega)
            have cl : w3.cell? ⟨g, q, none⟩ = some (.int .i64 (f q)) := HO3.out.cell q hlq
            have ll := HO3.out.lt
            by_cases e : f q = (j : Nat)
            · have de : (f q == ((j : Nat) : Int)) = true := by simpa using e
              have HQ : Hid (cntS f (j : Nat) (q + 1) = cntS f (j : Nat) q + 1) := by show cntS f (j : Nat) q + _ = _; rw [if_pos e]
              clear e
              go_wp2_with fail
              go_round
              case rel => exact ⟨q + 1, by omega, by go_num, by rw [HQ.out]⟩
              case measure => simp [intOf]; omega
            · have de : (f q == ((j : Nat) : Int)) = false := by simpa using e
              have HQ : Hid (cntS f (j : Nat) (q + 1) = cntS f (j : Nat) q) := by show cntS f (j : Nat) q + _ = _; rw [if_neg e]; omega
              clear e
              go_wp2_with fail
              go_round
              case rel => exact ⟨q + 1, by omega, by go_num, by rw [HQ.out]⟩
              case measure => simp [intOf]; omega
          · obtain rfl : q = n := by omega
            have dq : decide ((q : Int) < (q : Int)) = false := decide_eq_false (by omega)
            go_wp2_with fail
            go_round
            case rel => exact ⟨j + 1, by omega, by go_num, by rw [HE.out]⟩
            case measure => simp [intOf]; omega
      · obtain rfl : j = k := by omega
        have dj : decide ((j : Int) < (j : Int)) = false := decide_eq_false (by omega)
        have hE : sC f n j = (n : Int) := sC_full f j n HG.out.2.2.2
        rw [hE]
        clear hE hsb
        go_wp2_with fail
        go_ret
        exact ⟨by simp, HB3.out⟩
  · refine ((HA.out _ n c f z w1 HO1.out.sl.came (by omega) HF.out HZ.out).2 hG).mono ?_
    rintro e w2 ⟨a2, c2, rfl, hB2⟩
    have HB2 : Hid (Below w.heap.size w w2) := bnext HB1.out hB2
    have HO2 : Hid (IOwn w2 w.heap.size g n c f) := HO1.out.called hB2
    have HG := hid_of hG
    clear hB2 HB1 HO1 HA hG
    go_wp2_with fail
    refine (specCounts_bad _ n c f z w2 HO2.out.sl.came (by omega) HG.out).mono ?_
    rintro e w3 ⟨g3, rfl, _, hB3⟩
    have HB3 : Hid (Below w.heap.size w w3) := bnext HB2.out hB3
    clear hB3 HB2 HO2
    go_wp2_with fail
    go_loop [9, 10] (fun x i => i = .int .i64 0 ∧ x = .int .i64 0) (fun _ _ => 0)
    case atStart => exact ⟨rfl, rfl⟩
    case round =>
      obtain ⟨rfl, rfl⟩ := hrel
      go_wp2_with fail
      go_ret
      exact ⟨rfl, HB3.out⟩

theorem FnCounts_over (hA : CountsAnswer) (a : Option Addr) (len cap : Nat) (zs : List Int) (w : World) (hr : IsRow .u8 w a len cap zs) :
    Calls Try.prog 4 #[.slice a len cap] w fun e w' => e = .returned (.bool true) ∧ Below w.heap.size w w' := by
  obtain ⟨hC, hl, hc⟩ := codeAt_of_row hr
  unfold maxLen at hc
  by_cases h : (len : Int) ≤ 1048576
  · exact FnCounts_at hA a len cap w hC h
  · have d : (1048576 : Int) < len := by omega
    clear hr hC hA
    go_enter Try.func4, Try.ntmps4
    go_wp2_with fail
    refine (big_yes a len cap _ d (by omega)).mono ?_
    rintro e w1 ⟨rfl, rfl⟩
    go_wp2_with fail
    go_ret
    exact ⟨rfl, Below.refl _ _⟩

end Go.Proofs.Ytpecmolloohklaa
