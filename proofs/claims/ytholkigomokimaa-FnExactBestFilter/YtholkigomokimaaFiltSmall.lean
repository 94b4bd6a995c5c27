/-
  The walks of the program's filters: Paeth, what may be filtered, weights.
-/
import Derived.Test.YtholkigomokimaaRows
import Derived.Test.YtholkigomokimaaBase
import Derived.Test.YtholkigomokimaaFiltMath
import Derived.Test.YtholkigomokimaaFiltVal
import Derived.Test.YtholkigomokimaaFiltAns
import Derived.WalkKit
import Derived.ProofKit
import Derived.WalkLawsBesides
import Derived.Below
import Derived.Lib.SmallJoins
namespace Go.Proofs.Ytholkigomokimaa
open Go.RowKit Go.Joins TakeMath FiltMath

theorem paethOk_any (n : Int) (w : World) : Calls Try.prog 70 #[.int .i64 n] w fun e w' => e = .returned (.bool (decide (PR n))) ∧ w' = w := by
  by_cases h0 : -1000 ≤ n
  · have d0 : decide (-1000 ≤ n) = true := decide_eq_true h0
    by_cases h1 : n ≤ 1000
    · have d1 : decide (n ≤ 1000) = true := decide_eq_true h1
      rw [decide_eq_true (show PR n from ⟨h0, h1⟩)]
      go_enter Try.func70, Try.ntmps70
      go_wp2_with fail
      go_ret
      exact ⟨rfl, rfl⟩
    · have d1 : decide (n ≤ 1000) = false := decide_eq_false h1
      rw [decide_eq_false (show ¬ PR n from fun h => h1 h.2)]
      go_enter Try.func70, Try.ntmps70
      go_wp2_with fail
      go_ret
      exact ⟨rfl, rfl⟩
  · have d0 : decide (-1000 ≤ n) = false := decide_eq_false h0
    rw [decide_eq_false (show ¬ PR n from fun h => h0 h.1)]
    go_enter Try.func70, Try.ntmps70
    go_wp2_with fail
    go_ret
    exact ⟨rfl, rfl⟩
theorem distance_any (a b : Int) (w : World) (ha : -100000 ≤ a ∧ a ≤ 100000) (hb : -100000 ≤ b ∧ b ≤ 100000) : Calls Try.prog 71 #[.int .i64 a, .int .i64 b] w fun e w' => e = .returned (.int .i64 (siz (b - a))) ∧ w' = w := by
  go_enter Try.func71, Try.ntmps71
  go_wp2_with fail
  all_goals
    go_ret
    refine ⟨?_, rfl⟩
    show Ending.returned (Value.int .i64 _) = _
    congr 2
    unfold siz
    split <;> omega
/-- The nearest one as the program takes it. -/
def near1 (a b p : Int) : Int := if siz (p - b) < siz (p - a) then b else a
theorem near_paeth (a b c : Int) : near1 (near1 a b (a + b - c)) c (a + b - c) = paeth a b c := by
  unfold near1 paeth
  by_cases h1 : siz (a + b - c - b) < siz (a + b - c - a)
  · rw [if_pos h1]
    by_cases h2 : siz (a + b - c - c) < siz (a + b - c - b)
    · rw [if_pos h2, if_neg (by omega), if_neg (by omega)]
    · rw [if_neg h2, if_neg (by omega), if_pos (by omega)]
  · rw [if_neg h1]
    by_cases h2 : siz (a + b - c - c) < siz (a + b - c - a)
    · rw [if_pos h2, if_neg (by omega), if_neg (by omega)]
    · rw [if_neg h2, if_pos (by omega)]
theorem siz_range (x : Int) (h : -100000 ≤ x ∧ x ≤ 100000) : 0 ≤ siz x ∧ siz x ≤ 100000 := by unfold siz; split <;> omega
theorem two_first (b c : Int) (w : World) : (Instr.index 77 (.agg #[.int .i64 b, .int .i64 c]) (.int .i64 0)).run Try.prog w = .ok (.int .i64 b) w := by kernel_rfl
theorem two_second (b c : Int) (w : World) : (Instr.index 77 (.agg #[.int .i64 b, .int .i64 c]) (.int .i64 1)).run Try.prog w = .ok (.int .i64 c) w := by kernel_rfl
set_option maxHeartbeats 1600000 in
theorem implPaeth_in (a b c : Int) (w : World) (ha : PR a) (hb : PR b) (hc : PR c) : Calls Try.prog 69 #[.int .i64 a, .int .i64 b, .int .i64 c] w fun e w' => e = .returned (.int .i64 (paeth a b c)) ∧ w' = w := by
  have k1 := fun W => paethOk_any a W
  have k2 := fun W => paethOk_any b W
  have k3 := fun W => paethOk_any c W
  rw [decide_eq_true ha] at k1
  rw [decide_eq_true hb] at k2
  rw [decide_eq_true hc] at k3
  unfold PR at ha hb hc
  obtain ⟨p, hp⟩ : ∃ p, p = a + b - c := ⟨_, rfl⟩
  have HE : Hid (near1 (near1 a b p) c p = paeth a b c) := by show _ = _; rw [hp]; exact near_paeth a b c
  have hpr : -3000 ≤ p ∧ p ≤ 3000 := by omega
  have hps := hp.symm
  obtain ⟨m, hm⟩ : ∃ m, m = near1 a b p := ⟨_, rfl⟩
  have hmr : -1000 ≤ m ∧ m ≤ 1000 := by rw [hm]; unfold near1; split <;> omega
  rw [← hm] at HE
  have s1 := fun W => distance_any b p W (by omega) (by omega)
  have s2 := fun W => distance_any a p W (by omega) (by omega)
  have s3 := fun W => distance_any c p W (by omega) (by omega)
  have s4 := fun W => distance_any m p W (by omega) (by omega)
  have HM := hid_of hm
  clear hm hp
  have x0 := two_first b c
  have x1 := two_second b c
  go_enter Try.func69, Try.ntmps69
  go_wp2_with fail
  refine (k1 _).mono ?_
  rintro e w1 ⟨rfl, rfl⟩
  go_wp2_with fail
  refine (k2 _).mono ?_
  rintro e w1 ⟨rfl, rfl⟩
  go_wp2_with fail
  refine (k3 _).mono ?_
  rintro e w1 ⟨rfl, rfl⟩
  go_wp2_with fail
  go_loop [8, 33] (fun v i => ∃ j : Nat, i = .int .i64 (j : Int) ∧ (j = 0 ∧ v = .int .i64 a ∨ j = 1 ∧ v = .int .i64 m ∨ j = 2 ∧ v = .int .i64 (paeth a b c))) (fun _ i => 2 - (intOf i).toNat)
  case atStart => exact ⟨0, rfl, .inl ⟨rfl, rfl⟩⟩
  case round =>
    obtain ⟨j, rfl, ⟨rfl, rfl⟩ | ⟨rfl, rfl⟩ | ⟨rfl, rfl⟩⟩ := hrel
    · go_wp2_with fail
      refine (s1 _).mono ?_
      rintro e w1 ⟨rfl, rfl⟩
      go_wp2_with fail
      refine (s2 _).mono ?_
      rintro e w1 ⟨rfl, rfl⟩
      by_cases hlt : siz (p - b) < siz (p - a)
      · have d1 : decide (siz (p - b) < siz (p - a)) = true := decide_eq_true hlt
        have hmb : m = b := by rw [HM.out]; unfold near1; rw [if_pos hlt]
        go_wp2_with fail
        go_round
        case rel => exact ⟨1, rfl, .inr (.inl ⟨rfl, by rw [hmb]⟩)⟩
        case measure => simp [intOf]
      · have d1 : decide (siz (p - b) < siz (p - a)) = false := decide_eq_false hlt
        have hma : m = a := by rw [HM.out]; unfold near1; rw [if_neg hlt]
        go_wp2_with fail
        go_round
        case rel => exact ⟨1, rfl, .inr (.inl ⟨rfl, by rw [hma]⟩)⟩
        case measure => simp [intOf]
    · go_wp2_with fail
      refine (s3 _).mono ?_
      rintro e w1 ⟨rfl, rfl⟩
      go_wp2_with fail
      refine (s4 _).mono ?_
      rintro e w1 ⟨rfl, rfl⟩
      by_cases hlt : siz (p - c) < siz (p - m)
      · have d1 : decide (siz (p - c) < siz (p - m)) = true := decide_eq_true hlt
        have HR : Hid (c = paeth a b c) := by show c = _; rw [← HE.out]; unfold near1; rw [if_pos hlt]
        go_wp2_with fail
        go_round
        case rel => exact ⟨2, rfl, .inr (.inr ⟨rfl, congrArg _ HR.out⟩)⟩
        case measure => simp [intOf]
      · have d1 : decide (siz (p - c) < siz (p - m)) = false := decide_eq_false hlt
        have HR : Hid (m = paeth a b c) := by show m = _; rw [← HE.out]; unfold near1; rw [if_neg hlt]
        go_wp2_with fail
        go_round
        case rel => exact ⟨2, rfl, .inr (.inr ⟨rfl, congrArg _ HR.out⟩)⟩
        case measure => simp [intOf]
    · go_wp2_with fail
      go_ret
      exact ⟨rfl, rfl⟩
set_option maxHeartbeats 800000 in
theorem implPaeth_out (a b c : Int) (w : World) (h : ¬ (PR a ∧ PR b ∧ PR c)) : Calls Try.prog 69 #[.int .i64 a, .int .i64 b, .int .i64 c] w fun e w' => e = .returned (.int .i64 0) ∧ w' = w := by
  have k1 := fun W => paethOk_any a W
  have k2 := fun W => paethOk_any b W
  have k3 := fun W => paethOk_any c W
  by_cases ha : PR a
  · rw [decide_eq_true ha] at k1
    by_cases hb : PR b
    · have hc : ¬ PR c := fun hc => h ⟨ha, hb, hc⟩
      rw [decide_eq_true hb] at k2
      rw [decide_eq_false hc] at k3
      clear h
      go_enter Try.func69, Try.ntmps69
      go_wp2_with fail
      refine (k1 _).mono ?_
      rintro e w1 ⟨rfl, rfl⟩
      go_wp2_with fail
      refine (k2 _).mono ?_
      rintro e w1 ⟨rfl, rfl⟩
      go_wp2_with fail
      refine (k3 _).mono ?_
      rintro e w1 ⟨rfl, rfl⟩
      go_wp2_with fail
      go_ret
      exact ⟨rfl, rfl⟩
    · rw [decide_eq_false hb] at k2
      clear h
      go_enter Try.func69, Try.ntmps69
      go_wp2_with fail
      refine (k1 _).mono ?_
      rintro e w1 ⟨rfl, rfl⟩
      go_wp2_with fail
      refine (k2 _).mono ?_
      rintro e w1 ⟨rfl, rfl⟩
      go_wp2_with fail
      go_ret
      exact ⟨rfl, rfl⟩
  · rw [decide_eq_false ha] at k1
    clear h
    go_enter Try.func69, Try.ntmps69
    go_wp2_with fail
    refine (k1 _).mono ?_
    rintro e w1 ⟨rfl, rfl⟩
    go_wp2_with fail
    go_ret
    exact ⟨rfl, rfl⟩
theorem implPaeth_any (a b c : Int) (w : World) : Calls Try.prog 69 #[.int .i64 a, .int .i64 b, .int .i64 c] w fun e w' => e = .returned (.int .i64 (paethV a b c)) ∧ w' = w := by
  unfold paethV
  by_cases h : PR a ∧ PR b ∧ PR c
  · rw [if_pos h]; exact implPaeth_in a b c w h.1 h.2.1 h.2.2
  · rw [if_neg h]; exact implPaeth_out a b c w h
theorem paeth_answer : PaethAnswer := fun a b c w _ _ _ => (implPaeth_any a b c w).mono fun _ _ h => ⟨h.1, by rw [h.2]; exact Below.refl _ _⟩

/-- May a row be filtered at all? -/
theorem canFilter_any (row above : ByteArray) (unit : Int) (w : World) : Calls Try.prog 45 #[.string row, .string above, .int .i64 unit] w fun e w' => e = .returned (.bool (decide (FiltR 0 row above unit))) ∧ w' = w := by
  unfold FiltR
  by_cases h0 : 1 ≤ unit
  · have d0 : decide (1 ≤ unit) = true := decide_eq_true h0
    by_cases h1 : unit ≤ 8
    · have d1 : decide (unit ≤ 8) = true := decide_eq_true h1
      by_cases h2 : row.size = above.size
      · have d2 : decide ((row.size : Int) = (above.size : Int)) = true := decide_eq_true (by omega)
        have d2' : ((row.size : Int) == (above.size : Int)) = true := by simp [h2]
        by_cases h3 : row.size ≤ 200
        · have d3 : decide ((row.size : Int) ≤ 200) = true := decide_eq_true (by omega)
          have HE : Hid (decide (((0 : Int) ≤ 0 ∧ (0 : Int) ≤ 4) ∧ (1 ≤ unit ∧ unit ≤ 8) ∧ row.size = above.size ∧ row.size ≤ 200) = true) := by
            show _ = _
            exact decide_eq_true ⟨by omega, by omega, h2, h3⟩
          rw [HE.out]
          clear h2
          go_enter Try.func45, Try.ntmps45
          go_wp2_with fail
          go_ret
          exact ⟨rfl, rfl⟩
        · have d3 : decide ((row.size : Int) ≤ 200) = false := decide_eq_false (by omega)
          rw [decide_eq_false (fun h : ((0 : Int) ≤ 0 ∧ (0 : Int) ≤ 4) ∧ (1 ≤ unit ∧ unit ≤ 8) ∧ row.size = above.size ∧ row.size ≤ 200 => h3 h.2.2.2)]
          clear h2
          go_enter Try.func45, Try.ntmps45
          go_wp2_with fail
          go_ret
          exact ⟨rfl, rfl⟩
      · have d2 : decide ((row.size : Int) = (above.size : Int)) = false := decide_eq_false (by omega)
        have d2' : ((row.size : Int) == (above.size : Int)) = false := by simp; omega
        rw [decide_eq_false (fun h : ((0 : Int) ≤ 0 ∧ (0 : Int) ≤ 4) ∧ (1 ≤ unit ∧ unit ≤ 8) ∧ row.size = above.size ∧ row.size ≤ 200 => h2 h.2.2.1)]
        clear h2
        go_enter Try.func45, Try.ntmps45
        go_wp2_with fail
        go_ret
        exact ⟨rfl, rfl⟩
    · have d1 : decide (unit ≤ 8) = false := decide_eq_false h1
      rw [decide_eq_false (fun h : ((0 : Int) ≤ 0 ∧ (0 : Int) ≤ 4) ∧ (1 ≤ unit ∧ unit ≤ 8) ∧ row.size = above.size ∧ row.size ≤ 200 => h1 h.2.1.2)]
      go_enter Try.func45, Try.ntmps45
      go_wp2_with fail
      go_ret
      exact ⟨rfl, rfl⟩
  · have d0 : decide (1 ≤ unit) = false := decide_eq_false h0
    rw [decide_eq_false (fun h : ((0 : Int) ≤ 0 ∧ (0 : Int) ≤ 4) ∧ (1 ≤ unit ∧ unit ≤ 8) ∧ row.size = above.size ∧ row.size ≤ 200 => h0 h.2.1.1)]
    go_enter Try.func45, Try.ntmps45
    go_wp2_with fail
    go_ret
    exact ⟨rfl, rfl⟩

theorem byteWeight_any (b : Int) (w : World) (hb : 0 ≤ b ∧ b < 256) : Calls Try.prog 50 #[.int .u8 b] w fun e w' => e = .returned (.int .i64 (wgt b)) ∧ w' = w := by
  have w1 : IntKind.i64.wrap b = b := by rw [IntKind.wrap_i64]; omega
  have w2 : IntKind.i64.wrap (256 - b) = 256 - b := by rw [IntKind.wrap_i64]; omega
  go_enter Try.func50, Try.ntmps50
  go_wp2_with fail
  all_goals
    go_ret
    refine ⟨?_, rfl⟩
    show Ending.returned (Value.int .i64 _) = _
    congr 2
    unfold wgt
    split <;> omega
theorem wgt_range (b : Int) (hb : 0 ≤ b ∧ b < 256) : 0 ≤ wgt b ∧ wgt b ≤ 128 := by unfold wgt; split <;> omega
theorem isFilterKind_any (k : Int) (w : World) : Calls Try.prog 47 #[.int .i64 k] w fun e w' => e = .returned (.bool (decide (0 ≤ k ∧ k ≤ 4))) ∧ w' = w := by
  by_cases h0 : 0 ≤ k
  · have d0 : decide (0 ≤ k) = true := decide_eq_true h0
    by_cases h1 : k < 5
    · have d1 : decide (k < 5) = true := decide_eq_true h1
      rw [decide_eq_true (show 0 ≤ k ∧ k ≤ 4 by omega)]
      go_enter Try.func47, Try.ntmps47
      go_wp2_with fail
      go_ret
      exact ⟨rfl, rfl⟩
    · have d1 : decide (k < 5) = false := decide_eq_false h1
      rw [decide_eq_false (show ¬ (0 ≤ k ∧ k ≤ 4) by omega)]
      go_enter Try.func47, Try.ntmps47
      go_wp2_with fail
      go_ret
      exact ⟨rfl, rfl⟩
  · have d0 : decide (0 ≤ k) = false := decide_eq_false h0
    rw [decide_eq_false (show ¬ (0 ≤ k ∧ k ≤ 4) by omega)]
    go_enter Try.func47, Try.ntmps47
    go_wp2_with fail
    go_ret
    exact ⟨rfl, rfl⟩
set_option maxHeartbeats 800000 in
theorem weight_answer : WeightAnswer := by
  intro s w hs
  unfold weight
  by_cases h : s.size ≤ 200
  · rw [if_pos h]
    have d0 : decide ((200 : Int) < (s.size : Int)) = false := decide_eq_false (by omega)
    go_enter Try.func22, Try.ntmps22
    go_wp2_with fail
    go_loop [3, 10] (fun v i => ∃ j : Nat, j ≤ s.size ∧ i = .int .i64 (j : Int) ∧ v = .int .i64 (wsum (bts s) j)) (fun _ i => s.size - (intOf i).toNat)
    case atStart => exact ⟨0, Nat.zero_le _, rfl, rfl⟩
    case round =>
      obtain ⟨j, hj, rfl, rfl⟩ := hrel
      by_cases hlt : j < s.size
      · have HBY : Hid ((s[j]'hlt).toNat = byteAt s j) := byteAt_get s j hlt
        have hr := wsum_range (bts_byte s) j
        obtain ⟨B, hB⟩ : ∃ B : Nat, B = (s[j]'hlt).toNat := ⟨_, rfl⟩
        have hB1 : B < 256 := by rw [hB]; exact UInt8.toNat_lt _
        have HN : Hid (wsum (bts s) (j + 1) = wsum (bts s) j + wgt (B : Int)) := by
          show wsum (bts s) j + wgt (bts s j) = _
          unfold bts
          rw [← HBY.out, ← hB]
        have r0 := hB.symm
        have l1 : (j : Int) < (s.size : Int) := by omega
        have hbw := byteWeight_any (B : Int)
        have hwr := wgt_range (B : Int) (by omega)
        clear hB
        generalize wsum (bts s) j = Z at *
        generalize wgt (B : Int) = V at *
        go_wp2_with fail
        refine (hbw _ (by omega)).mono ?_
        rintro e w1 ⟨rfl, rfl⟩
        go_wp2_with fail
        go_round
        case rel => exact ⟨j + 1, by omega, by go_num, by rw [HN.out]⟩
        case measure => simp [intOf]; omega
      · obtain rfl : j = s.size := by omega
        go_wp2_with fail
        go_ret
        exact ⟨rfl, Below.refl _ _⟩
  · rw [if_neg h]
    have d0 : decide ((200 : Int) < (s.size : Int)) = true := decide_eq_true (by omega)
    go_enter Try.func22, Try.ntmps22
    go_wp2_with fail
    go_ret
    exact ⟨rfl, Below.refl _ _⟩
end Go.Proofs.Ytholkigomokimaa
