/-
  The walks of the model's draws of counts for short codes.
-/
import Derived.Test.YtpecmolloohklaaRows
import Derived.Test.YtpecmolloohklaaBase
import Derived.Test.YtpecmolloohklaaOwnLib
import Derived.Test.YtpecmolloohklaaIntsLib
import Derived.Test.YtpecmolloohklaaDrawLib
import Derived.Test.YtpecmolloohklaaDrawPick
import Derived.Test.YtpecmolloohklaaDrawOnce
import Derived.Test.YtpecmolloohklaaDrawList
import Derived.Test.YtpecmolloohklaaNumLib
import Derived.WalkKit
import Derived.ProofKit
import Derived.WalkLawsBesides
import Derived.Lib.SmallJoins
namespace Go.Proofs.Ytpecmolloohklaa
open Go.RowKit Go.Joins

theorem NumSt.ends1 {w0 w : World} {base b n g cap : Nat} (h : NumSt w0 w base b n (.slice (some ⟨g, 0, none⟩) n cap)) (h2 : n ≤ 300) : ∃ (g' n' cap' : Nat) (f : Nat → Int), Ending.returned (.slice (some ⟨g, 0, none⟩) n cap) = .returned (.slice (some ⟨g', 0, none⟩) n' cap') ∧ n' ≤ 300 ∧ IOwn w base g' n' cap' f ∧ (∀ i, i < n' → -1 ≤ f i ∧ f i ≤ 20000) ∧ Below base w0 w := by
  have hb := h.below
  obtain ⟨f, hf, hf2⟩ := h.out
  exact ⟨g, n, cap, f, rfl, h2, hf, hf2, hb⟩

set_option maxHeartbeats 1600000 in
theorem draw_l04 (base b : Nat) (w : World) (hC : Cur w base b) :
    Calls Try.prog 26 #[.pointer (some ⟨b, 0, none⟩)] w fun e w' => ∃ (g n cap : Nat) (f : Nat → Int), e = .returned (.slice (some ⟨g, 0, none⟩) n cap) ∧ n ≤ 300 ∧ IOwn w' base g n cap f ∧ (∀ i, i < n → -1 ≤ f i ∧ f i ≤ 20000) ∧ Below base w w' := by
  have H0 : Hid (NumSt w (w.alloc (.cells #[] 3)) base b 0 (.slice (some ⟨w.heap.size, 0, none⟩) 0 0)) := NumSt.lit hC (Below.refl _ _) [] (by simp) rfl (by omega)
  have hbl := hC.lt
  clear hC
  have H2 : Hid (NumSt w ((w.alloc (.cells #[] 3)).alloc (.cells #[.int .i64 2, .int .i64 5, .int .i64 40, .int .i64 2000] 3)) base b 0 (.slice (some ⟨w.heap.size, 0, none⟩) 0 0)) := H0.out.alloc _
  have HP : Hid (∀ j, j < 4 → ∃ x : Int, ((w.alloc (.cells #[] 3)).alloc (.cells #[.int .i64 2, .int .i64 5, .int .i64 40, .int .i64 2000] 3)).cell? ⟨w.heap.size + 1, j, none⟩ = some (.int .i64 x) ∧ (2 ≤ x ∧ x ≤ 2000)) := by
    intro j hj
    have e : w.heap.size + 1 = (w.alloc (.cells #[] 3)).heap.size := by simp
    rw [e]
    match j, hj with
    | 0, _ => exact ⟨2, by simp, by omega, by omega⟩
    | 1, _ => exact ⟨5, by simp, by omega, by omega⟩
    | 2, _ => exact ⟨40, by simp, by omega, by omega⟩
    | 3, _ => exact ⟨2000, by simp, by omega, by omega⟩
  clear H0
  go_enter Try.func26, Try.ntmps26
  go_wp2_with fail
  refine (draw_pickInt base b (w.heap.size + 1) 4 4 (fun x => 2 ≤ x ∧ x ≤ 2000) _ H2.out.cur (by omega) (by omega) (by simp) HP.out).mono ?_
  rintro e w2 ⟨m, rfl, hm, hC2, hg2⟩
  have H3 : Hid (NumSt w w2 base b 0 (.slice (some ⟨w.heap.size, 0, none⟩) 0 0)) := H2.out.drawn hg2 hC2
  obtain ⟨hm1, hm2⟩ := hm
  clear H2 HP hC2 hg2 hbl
  go_wp2_with fail
  go_loopw [3, 5] (fun v i w' => ∃ (j n g cap : Nat), j ≤ 24 ∧ n ≤ j ∧ i = .int .i64 j ∧ v = .slice (some ⟨g, 0, none⟩) n cap ∧ Hid (NumSt w w' base b n (.slice (some ⟨g, 0, none⟩) n cap))) (fun _ i _ => 24 - (intOf i).toNat)
  case atStart => exact ⟨0, 0, w.heap.size, 0, by omega, by omega, rfl, rfl, H3⟩
  case round =>
    clear H3
    obtain ⟨j, n, g, cap, hj, hn1, rfl, rfl, hL⟩ := hrel
    go_wp2_with fail
    refine (draw_below base _ _ _ hL.out.cur).mono ?_
    rintro e w3 ⟨y, rfl, hy, hC1, hg1⟩
    have HL1 : Hid (NumSt w w3 base b n (.slice (some ⟨g, 0, none⟩) n cap)) := hL.out.drawn hg1 hC1
    have hy1 : 0 ≤ y ∧ y < 24 := ⟨hy.1, hy.2.1 (by omega)⟩
    clear hC1 hg1 hy hL
    by_cases hlt : (j : Int) < y
    · go_wp2_with fail
      refine (draw_below base _ _ _ HL1.out.cur).mono ?_
      rintro e w4 ⟨u, rfl, hu, hC2, hg2⟩
      have HL2 : Hid (NumSt w w4 base b n (.slice (some ⟨g, 0, none⟩) n cap)) := HL1.out.drawn hg2 hC2
      have hu1 : 0 ≤ u ∧ u < m := ⟨hu.1, hu.2.1 (by omega)⟩
      clear hC2 hg2 hu HL1
      go_wp2_with fail
      refine (draw_once base _ _ _ HL2.out.cur).mono ?_
      rintro e w5 ⟨t, rfl, hC3, hg3⟩
      have HL3 : Hid (NumSt w w5 base b n (.slice (some ⟨g, 0, none⟩) n cap)) := HL2.out.drawn hg3 hC3
      clear hC3 hg3 HL2
      cases t
      · go_wp2_with (at_builtin; refine num_append rfl _ _ rfl rfl HL3.out u (by omega) (by omega) rfl (by omega) ?_)
        · intro g1 c1 w6 hL3
          have HL4 : Hid (NumSt w w6 base b (n + 1) (.slice (some ⟨g1, 0, none⟩) (n + 1) c1)) := hL3
          clear hL3
          go_wp2_with fail
          go_roundw
          case rel => exact ⟨j + 1, n + 1, g1, c1, by omega, by omega, by go_num, rfl, HL4⟩
          case measure => simp [intOf]; omega
      · go_wp2_with (at_builtin; refine num_append rfl _ _ rfl rfl HL3.out 0 (by omega) (by omega) rfl (by omega) ?_)
        · intro g1 c1 w6 hL3
          have HL4 : Hid (NumSt w w6 base b (n + 1) (.slice (some ⟨g1, 0, none⟩) (n + 1) c1)) := hL3
          clear hL3
          go_wp2_with fail
          go_roundw
          case rel => exact ⟨j + 1, n + 1, g1, c1, by omega, by omega, by go_num, rfl, HL4⟩
          case measure => simp [intOf]; omega
    · have hn : n ≤ 24 := by omega
      go_wp2_with fail
      clear hj hn1 hlt hy1
      refine (draw_below base _ _ _ HL1.out.cur).mono ?_
      rintro e w4 ⟨u, rfl, hu, hC2, hg2⟩
      have HL2 : Hid (NumSt w w4 base b n (.slice (some ⟨g, 0, none⟩) n cap)) := HL1.out.drawn hg2 hC2
      have hu1 : 0 ≤ u ∧ u < 30 := ⟨hu.1, hu.2.1 (by omega)⟩
      clear hC2 hg2 hu HL1
      by_cases u0 : u = 0
      · have d0 : (u == 0) = true := by simpa using u0
        have HL4 : Hid (NumSt w (w4.alloc (.cells #[.int .i64 (-1), .int .i64 12000, .int .i64 12001] 3)) base b n (.slice (some ⟨g, 0, none⟩) n cap)) := HL2.out.alloc _
        have hbl := HL2.out.cur.lt
        go_wp2_with fail
        refine (draw_pickInt base b w4.heap.size 3 3 (fun x => -1 ≤ x ∧ x ≤ 20000) _ HL4.out.cur (by omega) (by omega) (by simp) (fun j hj => ?_)).mono ?_
        · match j, hj with
          | 0, _ => exact ⟨-1, by simp, by omega, by omega⟩
          | 1, _ => exact ⟨12000, by simp, by omega, by omega⟩
          | 2, _ => exact ⟨12001, by simp, by omega, by omega⟩
        rintro e w8 ⟨z, rfl, hz, hC8, hg8⟩
        have HL5 : Hid (NumSt w w8 base b n (.slice (some ⟨g, 0, none⟩) n cap)) := HL4.out.drawn hg8 hC8
        clear hC8 hg8 HL4 HL2
        go_wp2_with (at_builtin; refine num_append rfl _ _ rfl rfl HL5.out z hz.1 hz.2 rfl (by omega) ?_)
        · intro g1 c1 w9 hL3
          have HL6 : Hid (NumSt w w9 base b (n + 1) (.slice (some ⟨g1, 0, none⟩) (n + 1) c1)) := hL3
          clear hL3
          go_wp2_with fail
          go_ret
          exact HL6.out.ends1 (by omega)
      · have d0 : (u == 0) = false := by simpa using u0
        by_cases u1 : u = 1
        · have d1 : (u == 1) = true := by simpa using u1
          go_wp2_with fail
          go_loopw [3] (fun v w' => ∃ (n g cap : Nat), n ≤ 289 ∧ v = .slice (some ⟨g, 0, none⟩) n cap ∧ Hid (NumSt w w' base b n (.slice (some ⟨g, 0, none⟩) n cap))) (fun v _ => 290 - numOf v)
          case atStart => exact ⟨n, g, cap, by omega, rfl, HL2⟩
          case round =>
            clear HL2
            obtain ⟨n4, g4, cap4, hm4, rfl, hL⟩ := hrel
            go_wp2_with fail
            refine (draw_below base _ _ _ hL.out.cur).mono ?_
            rintro e w7 ⟨x7, rfl, hx, hC1, hg1'⟩
            have HL3 : Hid (NumSt w w7 base b n4 (.slice (some ⟨g4, 0, none⟩) n4 cap4)) := hL.out.drawn hg1' hC1
            have hx1 : 0 ≤ x7 ∧ x7 < 2 := ⟨hx.1, hx.2.1 (by omega)⟩
            clear hC1 hg1' hx hL
            by_cases hlt : (n4 : Int) < 288 + x7
            · go_wp2_with fail
              refine (draw_below base _ _ _ HL3.out.cur).mono ?_
              rintro e w8 ⟨x8, rfl, hx, hC1, hg1'⟩
              have HL4 : Hid (NumSt w w8 base b n4 (.slice (some ⟨g4, 0, none⟩) n4 cap4)) := HL3.out.drawn hg1' hC1
              have hx2 : 0 ≤ x8 ∧ x8 < 3 := ⟨hx.1, hx.2.1 (by omega)⟩
              clear hC1 hg1' hx HL3
              go_wp2_with (at_builtin; refine num_append rfl _ _ rfl rfl HL4.out (1 + x8) (by omega) (by omega) rfl (by omega) ?_)
              · intro g1 c1 w9 hL3
                have HL5 : Hid (NumSt w w9 base b (n4 + 1) (.slice (some ⟨g1, 0, none⟩) (n4 + 1) c1)) := hL3
                clear hL3
                go_wp2_with fail
                go_roundw
                case rel => exact ⟨n4 + 1, g1, c1, by omega, rfl, HL5⟩
                case measure => simp [numOf]; omega
            · go_wp2_with fail
              go_ret
              exact HL3.out.ends1 (by omega)
        · have d1 : (u == 1) = false := by simpa using u1
          by_cases u2 : u = 2
          · have d2 : (u == 2) = true := by simpa using u2
            have HL4 : Hid (NumSt w (w4.alloc (.cells #[] 3)) base b 0 (.slice (some ⟨w4.heap.size, 0, none⟩) 0 0)) := NumSt.lit HL2.out.cur HL2.out.below [] (by simp) rfl (by omega)
            go_wp2_with fail
            clear HL2
            go_loopw [3, 7, 8] (fun v x i w' => ∃ (j n g cap : Nat), j ≤ 13 ∧ n ≤ j ∧ i = .int .i64 j ∧ x = .int .i64 ((2 : Int) ^ (j + 1) - 1) ∧ v = .slice (some ⟨g, 0, none⟩) n cap ∧ Hid (NumSt w w' base b n (.slice (some ⟨g, 0, none⟩) n cap))) (fun _ _ i _ => 13 - (intOf i).toNat)
            case atStart => exact ⟨0, 0, _, 0, by omega, by omega, rfl, rfl, rfl, HL4⟩
            case round =>
              clear HL4
              obtain ⟨j5, n5, g5, cap5, hj5, hn5, rfl, rfl, rfl, hL⟩ := hrel
              by_cases hlt : j5 < 13
              · have hp : (2 : Int) ^ (j5 + 1) ≤ 8192 ∧ 1 ≤ (2 : Int) ^ (j5 + 1) := by
                  have : ∀ q : Nat, q < 13 → (2 : Int) ^ (q + 1) ≤ 8192 ∧ 1 ≤ (2 : Int) ^ (q + 1) := by decide
                  exact this j5 hlt
                have HE : Hid ((2 : Int) ^ (j5 + 1 + 1) = 2 * (2 : Int) ^ (j5 + 1)) := by show _ = _; rw [Int.pow_succ (2 : Int) (j5 + 1), Int.mul_comm]
                obtain ⟨q, hq⟩ : ∃ q, q = (2 : Int) ^ (j5 + 1) := ⟨_, rfl⟩
                rw [← hq] at hp HE ⊢
                obtain ⟨hp1, hp2⟩ := hp
                clear hq
                go_wp2_with (at_builtin; refine num_append rfl _ _ rfl rfl hL.out (q - 1) (by omega) (by omega) rfl (by omega) ?_)
                · intro g1 c1 w9 hL3
                  have HL5 : Hid (NumSt w w9 base b (n5 + 1) (.slice (some ⟨g1, 0, none⟩) (n5 + 1) c1)) := hL3
                  clear hL3
                  go_wp2_with fail
                  go_roundw
                  case rel => exact ⟨j5 + 1, n5 + 1, g1, c1, by omega, by omega, by go_num, by rw [HE.out]; go_num, rfl, HL5⟩
                  case measure => simp [intOf]; omega
              · go_wp2_with fail
                go_ret
                exact hL.out.ends1 (by omega)
          · have d2 : (u == 2) = false := by simpa using u2
            go_wp2_with fail
            go_ret
            exact HL2.out.ends1 (by omega)

/-- What the draw for short codes ends with. -/
def LimDrawn (base : Nat) (w : World) (e : Ending) (w' : World) : Prop := ∃ (g n cap : Nat) (f : Nat → Int) (z : Int), e = .returned (.tuple #[.slice (some ⟨g, 0, none⟩) n cap, .int .i64 z]) ∧ n ≤ 300 ∧ 0 ≤ z ∧ z ≤ 20 ∧ IOwn w' base g n cap f ∧ (∀ i, i < n → -1 ≤ f i ∧ f i ≤ 20000) ∧ Below base w w'

set_option maxHeartbeats 800000 in
theorem draw_limited (a : Option Addr) (len cap : Nat) (base : Nat) (w : World) (hK : CodeAt w base a len) (hlen : len ≤ 1048576) (hbase : base ≤ w.heap.size) :
    Calls Try.prog 8 #[.slice a len cap] w (LimDrawn base w) := by
  have HK : Hid (CodeAt w base a len) := hK
  clear hK
  go_enter Try.func8, Try.ntmps8
  go_wp2_with fail
  refine (draw_new a len cap base w HK.out hlen hbase).mono ?_
  rintro e w1 ⟨rfl, hC1, o, rfl⟩
  have HB1 : Hid (Below base w (w.alloc o)) := (Below.refl base w).alloc hbase o
  obtain ⟨b, hb⟩ : ∃ b, b = w.heap.size := ⟨_, rfl⟩
  have HC1 : Hid (Cur (w.alloc o) base b) := by rw [hb]; exact hC1
  clear hC1
  generalize w.alloc o = w2 at *
  rw [← hb]
  clear hb hbase
  go_wp2_with fail
  refine (draw_below base _ _ _ HC1.out).mono ?_
  rintro e w3 ⟨x, rfl, hx, hC3, hg3⟩
  have hx1 : 0 ≤ x ∧ x < 12 := ⟨hx.1, hx.2.1 (by omega)⟩
  have HB3 : Hid (Below base w w3) := HB1.out.trans (below_of_grown hg3 HC1.out.base_le HC1.out.lt)
  have HC3 : Hid (Cur w3 base b) := hC3
  clear hC3 hg3 hx HB1 HC1
  go_wp2_with fail
  refine (draw_once base _ _ _ HC3.out).mono ?_
  rintro e w4 ⟨t, rfl, hC4, hg4⟩
  have HB4 : Hid (Below base w w4) := HB3.out.trans (below_of_grown hg4 HC3.out.base_le HC3.out.lt)
  have HC4 : Hid (Cur w4 base b) := hC4
  clear hC4 hg4 HB3 HC3
  cases t
  · go_wp2_with fail
    refine (draw_l04 base b w4 HC4.out).mono ?_
    rintro e w5 ⟨g, n, c, f, rfl, hn, hO, hf, hB⟩
    have HE : Hid (IOwn w5 base g n c f ∧ (∀ i, i < n → -1 ≤ f i ∧ f i ≤ 20000) ∧ Below base w w5) := ⟨hO, hf, HB4.out.trans hB⟩
    clear hO hf hB
    go_wp2_with fail
    go_ret2
    exact ⟨g, n, c, f, _, rfl, hn, by omega, by omega, HE.out⟩
  · have hbl := HC4.out.lt
    have hbb := HC4.out.base_le
    have HC5 : Hid (Cur (w4.alloc (.cells #[.int .i64 0, .int .i64 1, .int .i64 2, .int .i64 3, .int .i64 15, .int .i64 16, .int .i64 7] 3)) base b) := HC4.out.alloc _
    have HB5 : Hid (Below base w (w4.alloc (.cells #[.int .i64 0, .int .i64 1, .int .i64 2, .int .i64 3, .int .i64 15, .int .i64 16, .int .i64 7] 3))) := HB4.out.alloc (by omega) _
    go_wp2_with fail
    refine (draw_pickInt base b w4.heap.size 7 7 (fun x => 0 ≤ x ∧ x ≤ 20) _ HC5.out (by omega) (by omega) (by simp) (fun j hj => ?_)).mono ?_
    · match j, hj with
      | 0, _ => exact ⟨0, by simp, by omega, by omega⟩
      | 1, _ => exact ⟨1, by simp, by omega, by omega⟩
      | 2, _ => exact ⟨2, by simp, by omega, by omega⟩
      | 3, _ => exact ⟨3, by simp, by omega, by omega⟩
      | 4, _ => exact ⟨15, by simp, by omega, by omega⟩
      | 5, _ => exact ⟨16, by simp, by omega, by omega⟩
      | 6, _ => exact ⟨7, by simp, by omega, by omega⟩
    rintro e w6 ⟨z, rfl, hz, hC6, hg6⟩
    obtain ⟨hz1, hz2⟩ := hz
    have HB6 : Hid (Below base w w6) := HB5.out.trans (below_of_grown hg6 HC5.out.base_le HC5.out.lt)
    have HC6 : Hid (Cur w6 base b) := hC6
    clear hC6 hg6 HB5 HC5 HB4 HC4
    go_wp2_with fail
    refine (draw_l04 base b w6 HC6.out).mono ?_
    rintro e w5 ⟨g, n, c, f, rfl, hn, hO, hf, hB⟩
    have HE : Hid (IOwn w5 base g n c f ∧ (∀ i, i < n → -1 ≤ f i ∧ f i ≤ 20000) ∧ Below base w w5) := ⟨hO, hf, HB6.out.trans hB⟩
    clear hO hf hB
    go_wp2_with fail
    go_ret2
    exact ⟨g, n, c, f, _, rfl, hn, by omega, by omega, HE.out⟩

end Go.Proofs.Ytpecmolloohklaa
