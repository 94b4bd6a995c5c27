/-
  The walk of the model's draw of lengths that are mostly whole.
-/
import Derived.Test.YtbfjgkoohdknnaaRows
import Derived.Test.YtbfjgkoohdknnaaBase
import Derived.Test.YtbfjgkoohdknnaaOwnLib
import Derived.Test.YtbfjgkoohdknnaaIntsLib
import Derived.Test.YtbfjgkoohdknnaaDrawLib
import Derived.Test.YtbfjgkoohdknnaaDrawPick
import Derived.Test.YtbfjgkoohdknnaaDrawList
import Derived.Test.YtbfjgkoohdknnaaLenLib
import Derived.WalkKit
import Derived.ProofKit
import Derived.WalkLawsBesides
import Derived.Lib.SmallJoins
namespace Go.Proofs.Ytbfjgkoohdknnaa
open Go.RowKit Go.Joins

set_option maxHeartbeats 1600000 in
theorem draw_lengths (base b : Nat) (w : World) (hC : Cur w base b) :
    Calls Try.prog 42 #[.pointer (some ⟨b, 0, none⟩)] w fun e w' => ∃ (g n cap : Nat) (f : Nat → Int), e = .returned (.slice (some ⟨g, 0, none⟩) n cap) ∧ 1 ≤ n ∧ n ≤ 300 ∧ IOwn w' base g n cap f ∧ (∀ i, i < n → -100 ≤ f i ∧ f i ≤ 100) ∧ Below base w w' := by
  have H0 : Hid (LenSt w (w.alloc (.cells #[.int .i64 0] 3)) base b 1 (.slice (some ⟨w.heap.size, 0, none⟩) 1 1)) := LenSt.lit hC (Below.refl _ _) [0] (by simp) rfl (by omega)
  clear hC
  go_enter Try.func42, Try.ntmps42
  go_wp2_with fail
  go_loopw [3, 4] (fun v i w' => ∃ (j n g cap : Nat), j ≤ 12 ∧ 1 ≤ n ∧ n ≤ j + 1 ∧ i = .int .i64 j ∧ v = .slice (some ⟨g, 0, none⟩) n cap ∧ Hid (LenSt w w' base b n (.slice (some ⟨g, 0, none⟩) n cap))) (fun _ i _ => 12 - (intOf i).toNat)
  case atStart => exact ⟨0, 1, w.heap.size, 1, by omega, by omega, by omega, rfl, rfl, H0⟩
  case round =>
    obtain ⟨j, n, g, cap, hj, hn1, hn2, rfl, rfl, hL⟩ := hrel
    go_wp2_with fail
    refine (draw_below base _ _ _ hL.out.cur).mono ?_
    rintro e w1 ⟨x, rfl, hx, hC1, hg1⟩
    have HL1 : Hid (LenSt w w1 base b n (.slice (some ⟨g, 0, none⟩) n cap)) := hL.out.drawn hg1 hC1
    have hx1 : 0 ≤ x ∧ x < 12 := ⟨hx.1, hx.2.1 (by omega)⟩
    clear hC1 hg1 hx hL
    by_cases hlt : (j : Int) < x
    · go_wp2_with fail
      refine (draw_below base _ _ _ HL1.out.cur).mono ?_
      rintro e w2 ⟨y, rfl, hy, hC2, hg2⟩
      have HL2 : Hid (LenSt w w2 base b n (.slice (some ⟨g, 0, none⟩) n cap)) := HL1.out.drawn hg2 hC2
      have hy1 : 0 ≤ y ∧ y < n := ⟨hy.1, hy.2.1 (by omega)⟩
      clear hC2 hg2 hy HL1
      obtain ⟨k, rfl⟩ := Int.eq_ofNat_of_zero_le hy1.1
      have hkn : k < n := by omega
      obtain ⟨z, hz, hz0, hz1, hzf⟩ := HL2.out.get k hkn
      have hlg := HL2.out.lt
      by_cases h14 : z < 14
      · have HL3 : Hid (LenSt w (w2.setCell ⟨g, k, none⟩ (.int .i64 (z + 1))) base b n (.slice (some ⟨g, 0, none⟩) n cap)) := HL2.out.set k hkn (z + 1) (by omega) (by omega)
        have hsz : (w2.setCell ⟨g, k, none⟩ (.int .i64 (z + 1))).heap.size = w2.heap.size := by simp
        go_wp2_with (at_builtin; refine len_append rfl _ _ rfl rfl HL3.out (z + 1) (by omega) (by omega) ?c1 (by omega) ?_)
        case c1 => rw [hsz]; rfl
        · intro g1 c1 w3 hL3
          have HL4 : Hid (LenSt w w3 base b (n + 1) (.slice (some ⟨g1, 0, none⟩) (n + 1) c1)) := hL3
          clear hL3 HL3 hz hzf hsz
          go_wp2_with fail
          go_roundw
          case rel => exact ⟨j + 1, n + 1, g1, c1, by omega, by omega, by omega, by go_num, rfl, HL4⟩
          case measure => simp [intOf]; omega
      · have d : decide (z < 14) = false := by simpa using h14
        go_wp2_with fail
        go_roundw
        case rel => exact ⟨j + 1, n, g, cap, by omega, by omega, by omega, by go_num, rfl, HL2⟩
        case measure => simp [intOf]; omega
    · go_wp2_with fail
      have hn0 : n ≤ 13 := by omega
      clear hj hn2 hx1 hlt H0
      go_loopw [3, 6] (fun v i w' => ∃ (j n g cap : Nat), j ≤ 4 ∧ 1 ≤ n ∧ n ≤ j + 13 ∧ i = .int .i64 j ∧ v = .slice (some ⟨g, 0, none⟩) n cap ∧ Hid (LenSt w w' base b n (.slice (some ⟨g, 0, none⟩) n cap))) (fun _ i _ => 4 - (intOf i).toNat)
      case atStart => exact ⟨0, n, g, cap, by omega, by omega, by omega, rfl, rfl, HL1⟩
      case round =>
        clear HL1 hn1 hn0
        obtain ⟨j2, n2, g2, cap2, hj, hn1, hn2, rfl, rfl, hL⟩ := hrel
        go_wp2_with fail
        refine (draw_below base _ _ _ hL.out.cur).mono ?_
        rintro e w4 ⟨x2, rfl, hx, hC1, hg1⟩
        have HL1 : Hid (LenSt w w4 base b n2 (.slice (some ⟨g2, 0, none⟩) n2 cap2)) := hL.out.drawn hg1 hC1
        have hx1 : 0 ≤ x2 ∧ x2 < 4 := ⟨hx.1, hx.2.1 (by omega)⟩
        clear hC1 hg1 hx hL
        by_cases hlt : (j2 : Int) < x2
        · go_wp2_with (at_builtin; refine len_append rfl _ _ rfl rfl HL1.out 0 (by omega) (by omega) rfl (by omega) ?_)
          · intro g1 c1 w3 hL3
            have HL4 : Hid (LenSt w w3 base b (n2 + 1) (.slice (some ⟨g1, 0, none⟩) (n2 + 1) c1)) := hL3
            clear hL3
            go_wp2_with fail
            go_roundw
            case rel => exact ⟨j2 + 1, n2 + 1, g1, c1, by omega, by omega, by omega, by go_num, rfl, HL4⟩
            case measure => simp [intOf]; omega
        · go_wp2_with fail
          have hn0 : n2 ≤ 17 := by omega
          clear hj hn2 hx1 hlt
          go_loopw [7] (fun i w' => ∃ (j : Nat), j ≤ n2 ∧ i = .int .i64 j ∧ Hid (LenSt w w' base b n2 (.slice (some ⟨g2, 0, none⟩) n2 cap2))) (fun i _ => n2 - (intOf i).toNat)
          case atStart => exact ⟨0, by omega, rfl, HL1⟩
          case round =>
            clear HL1
            obtain ⟨j3, hj, rfl, hL⟩ := hrel
            by_cases hlt : j3 < n2
            · go_wp2_with fail
              refine (draw_below base _ _ _ hL.out.cur).mono ?_
              rintro e w5 ⟨y, rfl, hy, hC2, hg2'⟩
              have HL2 : Hid (LenSt w w5 base b n2 (.slice (some ⟨g2, 0, none⟩) n2 cap2)) := hL.out.drawn hg2' hC2
              have hy1 : 0 ≤ y ∧ y < n2 := ⟨hy.1, hy.2.1 (by omega)⟩
              clear hC2 hg2' hy hL
              obtain ⟨k, rfl⟩ := Int.eq_ofNat_of_zero_le hy1.1
              have hkn : k < n2 := by omega
              obtain ⟨z, hz, hz0, hz1, hzf⟩ := HL2.out.get k hkn
              obtain ⟨u, hu, hu0, hu1, huf⟩ := HL2.out.get j3 hlt
              have hlg := HL2.out.lt
              have HL3 : Hid (LenSt w (w5.setCell ⟨g2, j3, none⟩ (.int .i64 z)) base b n2 (.slice (some ⟨g2, 0, none⟩) n2 cap2)) := HL2.out.set j3 hlt z (by omega) (by omega)
              have HL4 : Hid (LenSt w ((w5.setCell ⟨g2, j3, none⟩ (.int .i64 z)).setCell ⟨g2, k, none⟩ (.int .i64 u)) base b n2 (.slice (some ⟨g2, 0, none⟩) n2 cap2)) := HL3.out.set k hkn u (by omega) (by omega)
              obtain ⟨z', hz', _, _, hzf'⟩ := HL3.out.get k hkn
              go_wp2_with fail
              go_roundw
              case rel => exact ⟨j3 + 1, by omega, by go_num, HL4⟩
              case measure => simp [intOf]; omega
            · go_wp2_with fail
              clear hj hlt
              refine (draw_below base _ _ _ hL.out.cur).mono ?_
              rintro e w6 ⟨y, rfl, hy, hC2, hg2'⟩
              have HL2 : Hid (LenSt w w6 base b n2 (.slice (some ⟨g2, 0, none⟩) n2 cap2)) := hL.out.drawn hg2' hC2
              have hy1 : 0 ≤ y ∧ y < 24 := ⟨hy.1, hy.2.1 (by omega)⟩
              clear hC2 hg2' hy hL
              by_cases y0 : y = 0
              · have d0 : (y == 0) = true := by simpa using y0
                clear hy1
                go_wp2_with fail
                refine (draw_below base _ _ _ HL2.out.cur).mono ?_
                rintro e w7 ⟨x7, rfl, hx, hC1, hg1⟩
                have HL3 : Hid (LenSt w w7 base b n2 (.slice (some ⟨g2, 0, none⟩) n2 cap2)) := HL2.out.drawn hg1 hC1
                have hx1 : 0 ≤ x7 ∧ x7 < n2 := ⟨hx.1, hx.2.1 (by omega)⟩
                clear hC1 hg1 hx HL2
                obtain ⟨k, rfl⟩ := Int.eq_ofNat_of_zero_le hx1.1
                have hkn : k < n2 := by omega
                have HL4 : Hid (LenSt w (w7.alloc (.cells #[.int .i64 (-1), .int .i64 15, .int .i64 16, .int .i64 1, .int .i64 0] 3)) base b n2 (.slice (some ⟨g2, 0, none⟩) n2 cap2)) := HL3.out.alloc _
                have hbl := HL3.out.cur.lt
                go_wp2_with fail
                refine (draw_pickInt base b w7.heap.size 5 5 (fun x => -100 ≤ x ∧ x ≤ 100) _ HL4.out.cur (by omega) (by omega) (by simp) (fun j hj => ?_)).mono ?_
                · match j, hj with
                  | 0, _ => exact ⟨-1, by simp, by omega, by omega⟩
                  | 1, _ => exact ⟨15, by simp, by omega, by omega⟩
                  | 2, _ => exact ⟨16, by simp, by omega, by omega⟩
                  | 3, _ => exact ⟨1, by simp, by omega, by omega⟩
                  | 4, _ => exact ⟨0, by simp, by omega, by omega⟩
                rintro e w8 ⟨z, rfl, hz, hC8, hg8⟩
                have HL5 : Hid (LenSt w w8 base b n2 (.slice (some ⟨g2, 0, none⟩) n2 cap2)) := HL4.out.drawn hg8 hC8
                have HL6 : Hid (LenSt w (w8.setCell ⟨g2, k, none⟩ (.int .i64 z)) base b n2 (.slice (some ⟨g2, 0, none⟩) n2 cap2)) := HL5.out.set k hkn z hz.1 hz.2
                obtain ⟨z5, hz5, _, _, hzf5⟩ := HL5.out.get k hkn
                have hlg := HL5.out.lt
                clear hC8 hg8 HL4 HL3
                go_wp2_with fail
                go_ret
                exact HL6.out.ends (by omega) (by omega)
              · have d0 : (y == 0) = false := by simpa using y0
                by_cases y1 : y = 1
                · have d1 : (y == 1) = true := by simpa using y1
                  have HL3 : Hid (LenSt w (w6.alloc (.cells #[.int .i64 0, .int .i64 1, .int .i64 0] 3)) base b 3 (.slice (some ⟨w6.heap.size, 0, none⟩) 3 3)) := LenSt.lit HL2.out.cur HL2.out.below [0, 1, 0] (by intro z hz; simp at hz; omega) rfl (by omega)
                  clear hy1
                  go_wp2_with fail
                  go_ret
                  exact HL3.out.ends (by omega) (by omega)
                · have d1 : (y == 1) = false := by simpa using y1
                  by_cases y2 : y = 2
                  · have d2 : (y == 2) = true := by simpa using y2
                    clear hy1
                    go_wp2_with fail
                    refine (draw_below base _ _ _ HL2.out.cur).mono ?_
                    rintro e w7 ⟨x7, rfl, hx, hC1, hg1⟩
                    have HL3 : Hid (LenSt w w7 base b n2 (.slice (some ⟨g2, 0, none⟩) n2 cap2)) := HL2.out.drawn hg1 hC1
                    have hx1 : 0 ≤ x7 ∧ x7 < 15 := ⟨hx.1, hx.2.1 (by omega)⟩
                    clear hC1 hg1 hx HL2
                    go_wp2_with (at_builtin; refine len_append rfl _ _ rfl rfl HL3.out (1 + x7) (by omega) (by omega) rfl (by omega) ?_)
                    · intro g1 c1 w8 hL3
                      have HL4 : Hid (LenSt w w8 base b (n2 + 1) (.slice (some ⟨g1, 0, none⟩) (n2 + 1) c1)) := hL3
                      clear hL3
                      go_wp2_with fail
                      go_ret
                      exact HL4.out.ends (by omega) (by omega)
                  · have d2 : (y == 2) = false := by simpa using y2
                    by_cases y3 : y = 3
                    · have d3 : (y == 3) = true := by simpa using y3
                      clear hy1
                      go_wp2_with fail
                      go_loopw [3] (fun v w' => ∃ (n g cap : Nat), 1 ≤ n ∧ n ≤ 290 ∧ v = .slice (some ⟨g, 0, none⟩) n cap ∧ Hid (LenSt w w' base b n (.slice (some ⟨g, 0, none⟩) n cap))) (fun v _ => 290 - lenOf v)
                      case atStart => exact ⟨n2, g2, cap2, by omega, by omega, rfl, HL2⟩
                      case round =>
                        clear HL2
                        obtain ⟨n4, g4, cap4, hn4, hm4, rfl, hL⟩ := hrel
                        go_wp2_with fail
                        refine (draw_below base _ _ _ hL.out.cur).mono ?_
                        rintro e w7 ⟨x7, rfl, hx, hC1, hg1'⟩
                        have HL3 : Hid (LenSt w w7 base b n4 (.slice (some ⟨g4, 0, none⟩) n4 cap4)) := hL.out.drawn hg1' hC1
                        have hx1 : 0 ≤ x7 ∧ x7 < 2 := ⟨hx.1, hx.2.1 (by omega)⟩
                        clear hC1 hg1' hx hL
                        by_cases hlt : (n4 : Int) < 288 + x7
                        · go_wp2_with (at_builtin; refine len_append rfl _ _ rfl rfl HL3.out 0 (by omega) (by omega) rfl (by omega) ?_)
                          · intro g1 c1 w8 hL3
                            have HL4 : Hid (LenSt w w8 base b (n4 + 1) (.slice (some ⟨g1, 0, none⟩) (n4 + 1) c1)) := hL3
                            clear hL3
                            go_wp2_with fail
                            go_roundw
                            case rel => exact ⟨n4 + 1, g1, c1, by omega, by omega, rfl, HL4⟩
                            case measure => simp [lenOf]; omega
                        · go_wp2_with fail
                          go_ret
                          exact HL3.out.ends (by omega) (by omega)
                    · have d3 : (y == 3) = false := by simpa using y3
                      clear hy1
                      go_wp2_with fail
                      go_ret
                      exact HL2.out.ends (by omega) (by omega)

end Go.Proofs.Ytbfjgkoohdknnaa
