/-
  The walk of the law FnRuns, over what the program's functions on Runs answer.
-/
import Derived.Test.YtjdfmbdcfdafjaaRows
import Derived.Test.YtjdfmbdcfdafjaaBase
import Derived.Test.YtjdfmbdcfdafjaaRowLib
import Derived.Test.YtjdfmbdcfdafjaaIntsLib
import Derived.Test.YtjdfmbdcfdafjaaCodeMath
import Derived.Test.YtjdfmbdcfdafjaaDrawLib
import Derived.Test.YtjdfmbdcfdafjaaRunsMath
import Derived.Test.YtjdfmbdcfdafjaaRunWalks
import Derived.Test.YtjdfmbdcfdafjaaRunsAns
import Derived.Test.YtjdfmbdcfdafjaaDrawRuns
import Derived.WalkKit
import Derived.ProofKit
import Derived.WalkLawsBesides
import Derived.RegionTactic
import Derived.Below
import Derived.Sort.Grow
import Derived.Shelf.SlSortCmp.QuietGrown
import Derived.Lib.SmallJoins
namespace Go.Proofs.Ytjdfmbdcfdafjaa
open Go.RowKit Go.Joins Go.Sort CodeMath RunsMath

set_option maxHeartbeats 800000 in
theorem sameInts_same (a b : Option Addr) (n c1 c2 : Nat) (f : Nat → Int) (w : World) (ha : Came w a n f) (hb : Came w b n f) (hn : n ≤ 1048576) :
    Calls Try.prog 13 #[.slice a n c1, .slice b n c2] w fun e w' => e = .returned (.bool true) ∧ Below w.heap.size w w' := by
  have HA : Hid (Came w a n f) := ha
  have HB : Hid (Came w b n f) := hb
  clear ha hb
  go_enter Try.func13, Try.ntmps13
  go_wp2_with fail
  go_loopw [5] (fun i w' => ∃ (j : Nat), j ≤ n ∧ i = .int .i64 j ∧ Hid (Below w.heap.size w w')) (fun i _ => n - (intOf i).toNat)
  case atStart => exact ⟨0, Nat.zero_le _, rfl, Below.refl _ _⟩
  case round =>
    obtain ⟨j, hj, rfl, hBj⟩ := hrel
    by_cases hlt : j < n
    · rcases HA.out with h0 | ⟨g, off, rfl, hg, hc⟩
      · omega
      · rcases HB.out with h0 | ⟨g', off', rfl, hg', hc'⟩
        · omega
        · have k0 : wr.cell? ⟨g, off + j, none⟩ = some (.int .i64 (f j)) := (hBj.out.cell (p := ⟨g, off + j, none⟩) hg).trans (hc j hlt)
          have k1 : wr.cell? ⟨g', off' + j, none⟩ = some (.int .i64 (f j)) := (hBj.out.cell (p := ⟨g', off' + j, none⟩) hg').trans (hc' j hlt)
          have l0 : g < wr.heap.size := Nat.lt_of_lt_of_le hg hBj.out.size
          have l1 : g' < wr.heap.size := Nat.lt_of_lt_of_le hg' hBj.out.size
          clear hc hc'
          go_wp2_with fail
          go_region
          all_goals
            go_wp2_with fail
            go_roundw
            case rel => exact ⟨j + 1, by omega, by go_num, hBj.out.drew⟩
            case measure => simp [intOf]; omega
    · go_wp2_with fail
      go_ret
      exact ⟨rfl, hBj.out⟩

theorem bits_small (x : Int) : bitsOf x ≤ 7 := by
  unfold bitsOf
  split
  · omega
  · split
    · omega
    · split <;> omega
theorem extra_bits_pow : ∀ z, z ≤ 7 → 1 ≤ (2 : Int) ^ z ∧ (2 : Int) ^ z ≤ 128 := by decide
theorem extra_bits_wrap (z : Nat) (h : z ≤ 7) : wrap64 ((2 : Int) ^ z) = 2 ^ z := by
  have h1 := extra_bits_pow z h
  generalize (2 : Int) ^ z = p at *
  unfold wrap64
  omega
theorem wf_small {x : Int} (h0 : -1 ≤ x) (h1 : x ≤ 20000) : (Lit.int .i64 x).wf = true := by
  simp [Lit.wf, IntKind.min, IntKind.max, IntKind.bits, IntKind.signed]
  omega
theorem rest_sym {f : Nat → Int} {n : Nat} (hf : Fine f n) : ∀ d i, n - i = d → ∀ r ∈ rest f n i, 0 ≤ r.1 ∧ r.1 ≤ 18 := by
  intro d
  induction d using Nat.strongRecOn with
  | _ d ih =>
    intro i hd r hr
    by_cases h : i < n
    · rw [rest_more h] at hr
      rcases List.mem_cons.mp hr with rfl | hr
      · have h3 := hf i h
        unfold runAt
        split
        · exact ⟨by show (0 : Int) ≤ 18; omega, by show (18 : Int) ≤ 18; omega⟩
        · split
          · exact ⟨by show (0 : Int) ≤ 17; omega, by show (17 : Int) ≤ 18; omega⟩
          · split
            · exact ⟨by show (0 : Int) ≤ 16; omega, by show (16 : Int) ≤ 18; omega⟩
            · exact ⟨h3.1, by show f i ≤ 18; omega⟩
      · have h1 := runAt_pos f n i
        exact ih (n - (i + (runAt f n i).2)) (by omega) (i + (runAt f n i).2) rfl r hr
    · rw [rest_none h] at hr
      cases hr

set_option maxHeartbeats 3200000 in
theorem FnRuns_at (hA : RunsAnswer) (hK : BackAnswer) (hQ : BitsAnswer) (a : Option Addr) (len cap : Nat) (w : World) (hk : CodeAt w w.heap.size a len) (hlen : (len : Int) ≤ 1048576) :
    Calls Try.prog 3 #[.slice a len cap] w fun e w' => e = .returned (.bool true) ∧ Below w.heap.size w w' := by
  have mixed : Try.prog.follows .mixedOrders = true := by kernel_rfl
  have HA := hid_of hA
  have HKK := hid_of hK
  have HQ := hid_of hQ
  have HD : Hid (CodeAt w w.heap.size a len) := hk
  clear hA hK hQ hk
  go_enter Try.func3, Try.ntmps3
  go_wp2_with fail
  refine (big_no a len cap _ hlen).mono ?_
  rintro e w0 ⟨rfl, rfl⟩
  go_wp2_with fail
  refine (draw_runsOf a len cap w0.heap.size w0 HD.out (by omega) (Nat.le_refl _)).mono ?_
  rintro e w1 ⟨g, n, c, f, rfl, hn, hO, hf, hB⟩
  have HO := hid_of hO
  have HF := hid_of hf
  have HB := hid_of hB
  clear hO hf hB
  by_cases hR : RunsRight f n
  · have hr := (HA.out _ n c f w1 HO.out.sl.came (by omega) (fun i hi => wf_small (HF.out i hi).1 (HF.out i hi).2)).1 hR
    have hs := fun w hC => specRuns_good (some ⟨g, 0, none⟩) n c f w hC hR
    have HR := hid_of hR
    have hrl := rest_length f n n 0 (by omega)
    obtain ⟨L, hL⟩ : ∃ L, L = rest f n 0 := ⟨_, rfl⟩
    have HL := hid_of hL
    rw [← hL] at hr hs hrl
    clear hL hR
    obtain ⟨m, hm⟩ : ∃ m, m = L.length := ⟨_, rfl⟩
    rw [← hm] at hr hs hrl
    have HM := hid_of hm
    clear hm
    go_wp2_with fail
    refine hr.mono ?_
    rintro e w2 ⟨a2, c2, rfl, hS2, hcap, hB2⟩
    clear hr
    have HS2 := hid_of hS2
    have HB2 := hid_of hB2
    clear hS2 hB2
    go_wp2_with fail
    refine (hs w2 (HO.out.sl.came.called HB2.out)).mono ?_
    rintro e w3 ⟨v3, rfl, _, hB3⟩
    clear hs
    have HB3 := hid_of (bnext (bnext HB.out HB2.out) hB3)
    have HS3 := hid_of (HS2.out.came.called hB3)
    have HO3 := hid_of ((HO.out.called HB2.out).called hB3)
    clear hB3
    have hbk : backOf L (n : Int) = some (lst f n) := by
      unfold backOf
      rw [if_pos ⟨by omega, by have := HR.out.1; omega⟩, Int.toNat_natCast, HL.out]
      exact back_rest HR.out.2 n 0 (by omega) (Nat.zero_le _)
    have hback := (HKK.out a2 c2 L (n : Int) w3 (by rw [← HM.out]; exact HS3.out) (by rw [← HM.out]; exact hcap) (by rw [← HM.out]; omega) (fun r hr => by
      rw [HL.out] at hr
      have h1 := rest_fine HR.out.2 n 0 (by omega) r hr
      have h2 := rest_sym HR.out.2 n 0 (by omega) r hr
      have h3 := extra_bits_pow _ (bits_small r.1)
      exact ⟨wf_small (by omega) (by omega), wf_small (by omega) (by omega)⟩) (wf_small (by omega) (by omega))).1 _ hbk
    rw [← HM.out, lst_length] at hback
    clear hbk
    go_wp2_with fail
    refine hback.mono ?_
    rintro e w4 ⟨a4, c4, rfl, hS4, hB4⟩
    clear hback
    have HB4 := hid_of (bnext HB3.out hB4)
    have HS4 := hid_of (HS3.out.called hB4)
    have HO4 := hid_of (HO3.out.called hB4)
    have HN4 : Hid (Came w4 a4 n f) := by
      have h := hS4.came
      rcases h with h | ⟨g', off, e, h1, h2⟩
      · exact .inl h
      · exact .inr ⟨g', off, e, h1, fun j hj => by rw [h2 j hj]; show some (Value.int .i64 ((lst f n).getD j 0)) = _; rw [lst_get f n j hj]⟩
    clear hB4 hS4
    go_wp2_with fail
    go_loopw [10] (fun i w' => ∃ j : Nat, j ≤ m ∧ i = .int .i64 j ∧ Hid (Below w4.heap.size w4 w')) (fun i _ => m - (intOf i).toNat)
    case atStart => exact ⟨0, Nat.zero_le _, rfl, Below.refl _ _⟩
    case round =>
      obtain ⟨j, hj, rfl, hBj⟩ := hrel
      by_cases hlt : j < m
      · rcases HS4.out with q | ⟨g', off, rfl, hg', hc⟩
        · omega
        · obtain ⟨c0, c1⟩ := hc j hlt
          have hmem : L.getD j (0, 0) ∈ rest f n 0 := by
            rw [← HL.out, List.getD_eq_getElem?_getD, List.getElem?_eq_getElem (by rw [← HM.out]; exact hlt)]
            exact List.getElem_mem _
          have h1 := rest_fine HR.out.2 n 0 (by omega) _ hmem
          have h2 := rest_sym HR.out.2 n 0 (by omega) _ hmem
          have h3 := extra_bits_pow _ (bits_small (L.getD j (0, 0)).1)
          have hbg : ∀ n' os, Below w4.heap.size w4 (grow (wr.drewN n') os) := fun n' os => bnext hBj.out (below_grow2 n' os)
          have k0 := fun n' os => ((hbg n' os).cell (p := ⟨g', off + j * 2, none⟩) hg').trans c0
          have k1 := fun n' os => ((hbg n' os).cell (p := ⟨g', off + j * 2 + 1, none⟩) hg').trans c1
          have hcb := fun (n' : Nat) (os : Array Obj) => HQ.out (L.getD j (0, 0)).1 (grow (wr.drewN n') os) (wf_small (by omega) (by omega))
          have ew0 := extra_bits_wrap _ (bits_small (L.getD j (0, 0)).1)
          have hb7 := bits_small (L.getD j (0, 0)).1
          generalize bitsOf (L.getD j (0, 0)).1 = z at h1 h3 hcb ew0 hb7
          generalize (L.getD j (0, 0)).1 = x at k0 hcb h2
          generalize (L.getD j (0, 0)).2 = y at k1 h1
          obtain ⟨pz, hpz⟩ : ∃ p, p = (2 : Int) ^ z := ⟨_, rfl⟩
          have ew : wrap64 ((2 : Int) ^ z) = pz := by rw [ew0, hpz]
          rw [← hpz] at h1 h3
          have ew2 : IntKind.i64.wrap ((2 : Int) ^ z) = pz := by
            rw [← hpz, IntKind.wrap_i64]
            omega
          have d0 : decide (y < 0) = false := decide_eq_false (by omega)
          have d0' : ¬ y < 0 := by omega
          have d1 : decide (pz ≤ y) = false := decide_eq_false (by omega)
          have d1' : ¬ pz ≤ y := by omega
          have HBG := hid_of hbg
          clear hc c0 c1 hmem h2 h3 hbg ew0 hpz
          go_wp2_with fail
          go_quiet_grown (refine Calls.grown_of (hcb _ _))
          have HN := hid_of (HBG.out nq osq)
          clear k0 k1 hcb HBG
          generalize grow (wr.drewN nq) osq = w5 at HN
          go_wp2_with fail
          go_roundw
          case rel => exact ⟨j + 1, by omega, by go_num, HN⟩
          case measure => simp [intOf]; omega
      · obtain rfl : j = m := by omega
        have dl : decide ((j : Int) ≤ (n : Int)) = true := decide_eq_true (by omega)
        have dl2 : (j : Int) ≤ (n : Int) := by omega
        go_wp2_with fail
        refine (sameInts_same a4 (some ⟨g, 0, none⟩) n c4 c f wr (HN4.out.called hBj.out) (HO4.out.called hBj.out).sl.came (by omega)).mono ?_
        rintro e w6 ⟨rfl, hB6⟩
        have HB6 := hid_of (bnext (bnext HB4.out hBj.out) hB6)
        clear hB6
        go_wp2_with fail
        go_ret
        exact ⟨rfl, HB6.out⟩
  · have hr := (HA.out _ n c f w1 HO.out.sl.came (by omega) (fun i hi => wf_small (HF.out i hi).1 (HF.out i hi).2)).2 hR
    have hs := fun w hC => specRuns_bad (some ⟨g, 0, none⟩) n c f w hC (by omega) hR
    clear hR
    go_wp2_with fail
    refine hr.mono ?_
    rintro e w2 ⟨a2, c2, rfl, hB2⟩
    clear hr
    have HB2 := hid_of hB2
    clear hB2
    go_wp2_with fail
    refine (hs w2 (HO.out.sl.came.called HB2.out)).mono ?_
    rintro e w3 ⟨rfl, rfl⟩
    clear hs
    have HB3 := hid_of (bal (bnext HB.out HB2.out) (.cells #[] 32))
    go_wp2_with fail
    go_ret
    exact ⟨rfl, HB3.out⟩

theorem FnRuns_over (hA : RunsAnswer) (hK : BackAnswer) (hQ : BitsAnswer) (a : Option Addr) (len cap : Nat) (zs : List Int) (w : World) (hr : IsRow .u8 w a len cap zs) :
    Calls Try.prog 3 #[.slice a len cap] w fun e w' => e = .returned (.bool true) ∧ Below w.heap.size w w' := by
  obtain ⟨hC, hl, hc⟩ := codeAt_of_row hr
  unfold maxLen at hc
  by_cases h : (len : Int) ≤ 1048576
  · exact FnRuns_at hA hK hQ a len cap w hC h
  · have d : (1048576 : Int) < len := by omega
    clear hr hC hA hK hQ
    go_enter Try.func3, Try.ntmps3
    go_wp2_with fail
    refine (big_yes a len cap _ d (by omega)).mono ?_
    rintro e w1 ⟨rfl, rfl⟩
    go_wp2_with fail
    go_ret
    exact ⟨rfl, Below.refl _ _⟩

end Go.Proofs.Ytjdfmbdcfdafjaa
