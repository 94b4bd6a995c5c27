/-
  The walk of the law FnMatches, over what the program's BestMatch answers.
-/
import Derived.Test.YtihcapfdpgaeiaaRows
import Derived.Test.YtihcapfdpgaeiaaBase
import Derived.Test.YtihcapfdpgaeiaaRowLib
import Derived.Test.YtihcapfdpgaeiaaOwnLib
import Derived.Test.YtihcapfdpgaeiaaDrawLib
import Derived.Test.YtihcapfdpgaeiaaDrawList
import Derived.Test.YtihcapfdpgaeiaaDrawPlaces
import Derived.Test.YtihcapfdpgaeiaaDrawData
import Derived.Test.YtihcapfdpgaeiaaTokMath
import Derived.Test.YtihcapfdpgaeiaaSearchMath
import Derived.Test.YtihcapfdpgaeiaaTextLib
import Derived.Test.YtihcapfdpgaeiaaSearchAns
import Derived.Test.YtihcapfdpgaeiaaSearchSpec
import Derived.Test.YtihcapfdpgaeiaaWaySpec
import Derived.WalkKit
import Derived.ProofKit
import Derived.WalkLawsBesides
import Derived.RegionTactic
import Derived.Deep.QuietTactic
import Derived.BigQuiet
import Derived.Deep.LoopGhost
import Derived.Below
import Derived.Lib.SmallJoins
namespace Go.Proofs.Ytihcapfdpgaeiaa
open Go.RowKit Go.Joins TokMath SearchMath

theorem code_mono7 {w : World} {b b' : Nat} {a : Option Addr} {len : Nat} (h : CodeAt w b a len) (hb : b ≤ b') : CodeAt w b' a len := by
  rcases h with h | ⟨bc, off, ha, hlt, hc⟩
  · exact .inl h
  · exact .inr ⟨bc, off, ha, Nat.lt_of_lt_of_le hlt hb, hc⟩
theorem wf_small7 {x : Int} (h0 : 0 ≤ x) (h1 : x ≤ 100000) : (Lit.int .i64 x).wf = true := by
  simp [Lit.wf, IntKind.min, IntKind.max, IntKind.bits, IntKind.signed]
  omega

set_option maxHeartbeats 6400000 in
set_option maxRecDepth 100000 in
theorem FnMatches_at (hA : BestAnswer) (a : Option Addr) (len cap : Nat) (w : World) (hk : CodeAt w w.heap.size a len) (hlen : (len : Int) ≤ 1048576) :
    Calls Try.prog 4 #[.slice a len cap] w fun e w' => e = .returned (.bool true) ∧ Below w.heap.size w w' := by
  have HA := hid_of hA
  have HD : Hid (CodeAt w w.heap.size a len) := hk
  clear hA hk
  go_enter Try.func4, Try.ntmps4
  go_wp2_with fail
  refine (big_no a len cap _ hlen).mono ?_
  rintro e w0 ⟨rfl, rfl⟩
  go_wp2_with fail
  refine (draw_data a len cap w0.heap.size w0 HD.out (by omega) (Nat.le_refl _)).mono ?_
  rintro e w1 ⟨s, rfl, hs, hB1⟩
  have HB1 := hid_of hB1
  have HD1 := hid_of (code_mono7 (HD.out.below hB1) hB1.size)
  clear hB1 HD
  by_cases hz : s.size = 0
  · have dz : ((s.size : Int) == 0) = true := by simp [hz]
    have dz' : (s.size == 0) = true := by simp [hz]
    go_wp2_with fail
    go_ret
    exact ⟨rfl, HB1.out⟩
  · have dz : ((s.size : Int) == 0) = false := beq_eq_false_iff_ne.mpr (by omega)
    have dz' : (s.size == 0) = false := beq_eq_false_iff_ne.mpr hz
    go_wp2_with fail
    refine (draw_places a len cap w1.heap.size w1 HD1.out (by omega) (Nat.le_refl _)).mono ?_
    rintro e w2 ⟨gp, c, zs, rfl, hzl, hzb, hOp, hB2⟩
    have hlt := hOp.lt
    have hzc : ∀ j, j < 12 → w2.cell? ⟨gp, j, none⟩ = some (.int .i64 (zs.getD j 0)) ∧ 0 ≤ zs.getD j 0 ∧ zs.getD j 0 < 10000 := by
      intro j hj
      have hj' : j < (i64s zs).length := by rw [i64s_length]; omega
      refine ⟨by rw [hOp.cell j hj', i64s_get], hzb _ ?_⟩
      rw [List.getD_eq_getElem?_getD, List.getElem?_eq_getElem (by omega)]
      exact List.getElem_mem _
    obtain ⟨c0, p00, p01⟩ := hzc 0 (by omega)
    obtain ⟨c1, p10, p11⟩ := hzc 1 (by omega)
    generalize zs.getD 0 0 = z0 at c0 p00 p01
    generalize zs.getD 1 0 = z1 at c1 p10 p11
    have HB2 := hid_of (bnext HB1.out hB2)
    clear hzl hzb hOp hzc hB2 HB1 HD1
    obtain ⟨t, et, htl⟩ : ∃ t : Nat, z0.tmod (s.size : Int) = (t : Int) ∧ t < s.size := by
      have k0 := Int.emod_nonneg z0 (show (s.size : Int) ≠ 0 by omega)
      have k1 := Int.emod_lt_of_pos z0 (show (0 : Int) < (s.size : Int) by omega)
      exact ⟨(z0 % (s.size : Int)).toNat, by rw [Int.tmod_eq_emod_of_nonneg p00]; omega, by omega⟩
    obtain ⟨q, eq, hq0, hq1⟩ : ∃ q : Int, z1.tmod 64 = q ∧ 0 ≤ q ∧ q ≤ 63 := ⟨z1.tmod 64, rfl, by rw [Int.tmod_eq_emod_of_nonneg p10]; omega, by rw [Int.tmod_eq_emod_of_nonneg p10]; omega⟩
    obtain ⟨ch, ec⟩ : ∃ ch : Nat, (1 : Int) + q = (ch : Int) := ⟨(1 + q).toNat, by omega⟩
    have hc1 : 1 ≤ ch := by omega
    have hc2 : ch ≤ 64 := by omega
    have hbo : bestOf s (t : Int) (ch : Int) = bestM (txt s) s.size t ch := by
      unfold bestOf
      rw [if_pos ⟨by omega, ⟨by omega, by omega⟩, by omega, by omega⟩, Int.toNat_natCast, Int.toNat_natCast]
    have hi := fun w => HA.out s (t : Int) (ch : Int) w (by omega) (wf_small7 (by omega) (by omega)) (wf_small7 (by omega) (by omega))
    rw [hbo] at hi
    have hm := fun w => specBest_in s t ch w htl (by omega) hc1 hc2
    have hf := best_fact (f := txt s) (N := s.size) t ch
    have hbl := best_le (f := txt s) (N := s.size) (t := t) (c := ch)
    generalize bestM (txt s) s.size t ch = P at hi hm hf hbl
    obtain ⟨n, d⟩ := P
    have hn8 : n ≤ 258 := hbl.1
    have hdt : d ≤ t := hbl.2
    clear hbo hbl
    have HF : Hid ((n, d) = (0, 0) ∨ (RepOk (txt s) s.size t n d ∧ (n = 258 ∨ t + n = s.size ∨ txt s (t + n) ≠ txt s (t + n - d)))) := hf
    clear hf
    go_wp2_with fail
    refine (hi _).mono ?_
    rintro e w3 ⟨rfl, hB3⟩
    have HB3 := hid_of (bnext HB2.out hB3)
    clear hB3 hi HB2 c0 c1
    go_wp2_with fail
    refine (hm _).mono ?_
    rintro e w4 ⟨rfl, hB4⟩
    have HB4 := hid_of (bnext HB3.out hB4)
    clear hB4 hm HB3
    by_cases hn0 : n = 0
    · have hd0 : d = 0 := by
        rcases HF.out with h | h
        · exact (Prod.mk.inj h).2
        · have := h.1.1.1
          omega
      subst hn0 hd0
      go_wp2_with fail
      go_ret
      exact ⟨rfl, HB4.out⟩
    · have dn : ((n : Int) == 0) = false := by simp; omega
      have dn' : (n == 0) = false := by simp; omega
      have HR : Hid (RepOk (txt s) s.size t n d ∧ (n = 258 ∨ t + n = s.size ∨ txt s (t + n) ≠ txt s (t + n - d))) := by
        rcases HF.out with h | h
        · exact absurd (Prod.mk.inj h).1 hn0
        · exact h
      have hn3 : 3 ≤ n := HR.out.1.1.1
      have hd1 : 1 ≤ d := HR.out.1.2.1.1
      have hin : t + n ≤ s.size := HR.out.1.2.2.1
      clear HF
      go_wp2_with fail
      go_loopg [11] (n + 1) (fun gk y w' => ∃ k : Nat, k ≤ n ∧ n - k ≤ gk ∧ y = .int .i64 (k : Int) ∧ Hid (Below w0.heap.size w0 w'))
      case atStart => exact ⟨0, by omega, by omega, rfl, HB4⟩
      case round =>
        clear HB4
        obtain ⟨k, hkn, hgk, rfl, hS⟩ := hrel
        by_cases hkl : k < n
        · have dk : decide ((k : Int) < (n : Int)) = true := decide_eq_true (by omega)
          have v1 : IntKind.i64.wrap ((t : Int) + (k : Int)) = (t : Int) + (k : Int) := by
            rw [IntKind.wrap_i64]
            omega
          have v2 : IntKind.i64.wrap ((t : Int) + (k : Int) - (d : Int)) = (t : Int) + (k : Int) - (d : Int) := by
            rw [IntKind.wrap_i64]
            omega
          have e1 : ((t : Int) + (k : Int)).toNat = t + k := by omega
          have e2 : (0 : Int) ≤ (t : Int) + (k : Int) := by omega
          have e3 : (t : Int) + (k : Int) < (s.size : Int) := by omega
          have e4 : ((t : Int) + (k : Int) - (d : Int)).toNat = t + k - d := by omega
          have e5 : (0 : Int) ≤ (t : Int) + (k : Int) - (d : Int) := by omega
          have e6 : (t : Int) + (k : Int) - (d : Int) < (s.size : Int) := by omega
          have e7 : (d : Int) ≤ (t : Int) + (k : Int) := by omega
          have e8 : (t : Int) + (k : Int) < (s.size : Int) + (d : Int) := by omega
          have e9 : d ≤ t + k := by omega
          have h1 : t + k < s.size := by omega
          have h2 : t + k - d < s.size := by omega
          have g1 := txt_get s (t + k) h1
          have g2 := txt_get s (t + k - d) h2
          have d2 : (((s[t + k]'h1).toNat : Int) != ((s[t + k - d]'h2).toNat : Int)) = false := by
            rw [g1, g2, HR.out.1.2.2.2 k hkl]
            simp
          clear g1 g2
          go_wp2_with fail
          go_quiet (fail)
          go_wp2_with fail
          go_roundg (n - (k + 1))
          case measure => omega
          case rel => exact ⟨k + 1, by omega, Nat.le_refl _, by go_num, bdraws hS.out _⟩
        · obtain rfl : k = n := by omega
          have dk : decide ((k : Int) < (k : Int)) = false := decide_eq_false (by omega)
          have d3 : decide ((3 : Int) ≤ (k : Int)) = true := decide_eq_true (by omega)
          have d3' : decide (3 ≤ k) = true := decide_eq_true hn3
          have d8 : decide ((k : Int) ≤ 258) = true := decide_eq_true (by omega)
          have d8' : decide (k ≤ 258) = true := decide_eq_true hn8
          by_cases h8 : k = 258
          · have b8 : ((k : Int) == 258) = true := by simp; omega
            have b8' : (k == 258) = true := by simp; omega
            go_wp2_with fail
            go_quiet (fail)
            go_wp2_with fail
            go_ret
            exact ⟨rfl, bdraws hS.out _⟩
          · have b8 : ((k : Int) == 258) = false := by simp; omega
            have b8' : (k == 258) = false := by simp; omega
            by_cases he : t + k = s.size
            · have v1 : IntKind.i64.wrap ((t : Int) + (k : Int)) = (t : Int) + (k : Int) := by
                rw [IntKind.wrap_i64]
                omega
              have be : ((t : Int) + (k : Int) == (s.size : Int)) = true := by simp; omega
              go_wp2_with fail
              go_quiet (fail)
              go_wp2_with fail
              go_ret
              exact ⟨rfl, bdraws hS.out _⟩
            · have be : ((t : Int) + (k : Int) == (s.size : Int)) = false := by simp; omega
              have v1 : IntKind.i64.wrap ((t : Int) + (k : Int)) = (t : Int) + (k : Int) := by
                rw [IntKind.wrap_i64]
                omega
              have v2 : IntKind.i64.wrap ((t : Int) + (k : Int) - (d : Int)) = (t : Int) + (k : Int) - (d : Int) := by
                rw [IntKind.wrap_i64]
                omega
              have e1 : ((t : Int) + (k : Int)).toNat = t + k := by omega
              have e2 : (0 : Int) ≤ (t : Int) + (k : Int) := by omega
              have e3 : (t : Int) + (k : Int) < (s.size : Int) := by omega
              have e4 : ((t : Int) + (k : Int) - (d : Int)).toNat = t + k - d := by omega
              have e5 : (0 : Int) ≤ (t : Int) + (k : Int) - (d : Int) := by omega
              have e6 : (t : Int) + (k : Int) - (d : Int) < (s.size : Int) := by omega
              have e7 : (d : Int) ≤ (t : Int) + (k : Int) := by omega
              have e8 : (t : Int) + (k : Int) < (s.size : Int) + (d : Int) := by omega
              have e9 : d ≤ t + k := by omega
              have h1 : t + k < s.size := by omega
              have h2 : t + k - d < s.size := by omega
              have g1 := txt_get s (t + k) h1
              have g2 := txt_get s (t + k - d) h2
              have d2 : (((s[t + k]'h1).toNat : Int) != ((s[t + k - d]'h2).toNat : Int)) = true := by
                rw [g1, g2]
                have := HR.out.2
                simp
                omega
              clear g1 g2
              go_wp2_with fail
              go_quiet (fail)
              go_wp2_with fail
              go_ret
              exact ⟨rfl, bdraws hS.out _⟩

theorem FnMatches_over (hA : BestAnswer) (a : Option Addr) (len cap : Nat) (zs : List Int) (w : World) (hr : IsRow .u8 w a len cap zs) :
    Calls Try.prog 4 #[.slice a len cap] w fun e w' => e = .returned (.bool true) ∧ Below w.heap.size w w' := by
  obtain ⟨hC, hl, hc⟩ := codeAt_of_row hr
  unfold maxLen at hc
  by_cases h : (len : Int) ≤ 1048576
  · exact FnMatches_at hA a len cap w hC h
  · have d : (1048576 : Int) < len := by omega
    clear hr hC hA
    go_enter Try.func4, Try.ntmps4
    go_wp2_with fail
    refine (big_yes a len cap _ d (by omega)).mono ?_
    rintro e w1 ⟨rfl, rfl⟩
    go_wp2_with fail
    go_ret
    exact ⟨rfl, Below.refl _ _⟩

end Go.Proofs.Ytihcapfdpgaeiaa
