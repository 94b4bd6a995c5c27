/-
  The walks of the model's draws for counts and for short codes.
-/
import Derived.Test.YtpecmolloohklaaRows
import Derived.Test.YtpecmolloohklaaBase
import Derived.Test.YtpecmolloohklaaOwnLib
import Derived.Test.YtpecmolloohklaaIntsLib
import Derived.Test.YtpecmolloohklaaDrawLib
import Derived.Test.YtpecmolloohklaaDrawPick
import Derived.Test.YtpecmolloohklaaDrawOnce
import Derived.Test.YtpecmolloohklaaDrawList
import Derived.Test.YtpecmolloohklaaNumLib
import Derived.WalkKit
import Derived.ProofKit
import Derived.WalkLawsBesides
import Derived.Lib.SmallJoins
namespace Go.Proofs.Ytpecmolloohklaa
open Go.RowKit Go.Joins

theorem NumSt.ends2 {w0 w : World} {base b n g cap : Nat} (h : NumSt w0 w base b n (.slice (some ⟨g, 0, none⟩) n cap)) (h2 : n ≤ 300) (z : Int) (h3 : -1 ≤ z) (h4 : z ≤ 300) : ∃ (g' n' cap' : Nat) (f : Nat → Int) (z' : Int), Ending.returned (.tuple #[.slice (some ⟨g, 0, none⟩) n cap, .int .i64 z]) = .returned (.tuple #[.slice (some ⟨g', 0, none⟩) n' cap', .int .i64 z']) ∧ n' ≤ 300 ∧ -1 ≤ z' ∧ z' ≤ 300 ∧ IOwn w base g' n' cap' f ∧ (∀ i, i < n' → -1 ≤ f i ∧ f i ≤ 20000) ∧ Below base w0 w := by
  have hb := h.below
  obtain ⟨f, hf, hf2⟩ := h.out
  exact ⟨g, n, cap, f, z, rfl, h2, h3, h4, hf, hf2, hb⟩

set_option maxHeartbeats 1600000 in
theorem draw_countsOf (a : Option Addr) (len cap : Nat) (base : Nat) (w : World) (hK : CodeAt w base a len) (hlen : len ≤ 1048576) (hbase : base ≤ w.heap.size) :
    Calls Try.prog 15 #[.slice a len cap] w fun e w' => ∃ (g n cap : Nat) (f : Nat → Int) (z : Int), e = .returned (.tuple #[.slice (some ⟨g, 0, none⟩) n cap, .int .i64 z]) ∧ n ≤ 300 ∧ -1 ≤ z ∧ z ≤ 300 ∧ IOwn w' base g n cap f ∧ (∀ i, i < n → -1 ≤ f i ∧ f i ≤ 20000) ∧ Below base w w' := by
  have HK : Hid (CodeAt w base a len) := hK
  clear hK
  go_enter Try.func15, Try.ntmps15
  go_wp2_with fail
  refine (draw_new a len cap base w HK.out hlen hbase).mono ?_
  rintro e w1 ⟨rfl, hC1, o, rfl⟩
  have HB1 : Hid (Below base w (w.alloc o)) := (Below.refl base w).alloc hbase o
  obtain ⟨b, hb⟩ : ∃ b, b = w.heap.size := ⟨_, rfl⟩
  have HC1 : Hid (Cur (w.alloc o) base b) := by rw [hb]; exact hC1
  clear hC1
  generalize w.alloc o = w2 at *
  rw [← hb]
  clear hb hbase
  go_wp2_with fail
  refine (draw_below base _ _ _ HC1.out).mono ?_
  rintro e w3 ⟨x, rfl, hx, hC3, hg3⟩
  have hx1 : 0 ≤ x ∧ x < 12 := ⟨hx.1, hx.2.1 (by omega)⟩
  have hl2 := HC1.out.lt
  have hb2 := HC1.out.base_le
  have H0 : Hid (NumSt w (w3.alloc (.cells #[] 3)) base b 0 (.slice (some ⟨w3.heap.size, 0, none⟩) 0 0)) := NumSt.lit hC3 (HB1.out.trans (below_of_grown hg3 hb2 hl2)) [] (by simp) rfl (by omega)
  clear hC3 hg3 hx HB1 HC1 hl2 hb2
  go_wp2_with fail
  go_loopw [6, 7] (fun v i w' => ∃ (j n g cap : Nat), j ≤ 30 ∧ n ≤ j ∧ i = .int .i64 j ∧ v = .slice (some ⟨g, 0, none⟩) n cap ∧ Hid (NumSt w w' base b n (.slice (some ⟨g, 0, none⟩) n cap))) (fun _ i _ => 30 - (intOf i).toNat)
  case atStart => exact ⟨0, 0, w3.heap.size, 0, by omega, by omega, rfl, rfl, H0⟩
  case round =>
    clear H0
    obtain ⟨j, n, g, cap, hj, hn1, rfl, rfl, hL⟩ := hrel
    go_wp2_with fail
    refine (draw_below base _ _ _ hL.out.cur).mono ?_
    rintro e w1 ⟨y, rfl, hy, hC1, hg1⟩
    have HL1 : Hid (NumSt w w1 base b n (.slice (some ⟨g, 0, none⟩) n cap)) := hL.out.drawn hg1 hC1
    have hy1 : 0 ≤ y ∧ y < 30 := ⟨hy.1, hy.2.1 (by omega)⟩
    clear hC1 hg1 hy hL
    by_cases hlt : (j : Int) < y
    · go_wp2_with fail
      refine (draw_below base _ _ _ HL1.out.cur).mono ?_
      rintro e w2 ⟨u, rfl, hu, hC2, hg2⟩
      have HL2 : Hid (NumSt w w2 base b n (.slice (some ⟨g, 0, none⟩) n cap)) := HL1.out.drawn hg2 hC2
      have hu1 : 0 ≤ u ∧ u < 1 + x := ⟨hu.1, hu.2.1 (by omega)⟩
      clear hC2 hg2 hu HL1
      go_wp2_with (at_builtin; refine num_append rfl _ _ rfl rfl HL2.out u (by omega) (by omega) rfl (by omega) ?_)
      · intro g1 c1 w3 hL3
        have HL4 : Hid (NumSt w w3 base b (n + 1) (.slice (some ⟨g1, 0, none⟩) (n + 1) c1)) := hL3
        clear hL3
        go_wp2_with fail
        go_roundw
        case rel => exact ⟨j + 1, n + 1, g1, c1, by omega, by omega, by go_num, rfl, HL4⟩
        case measure => simp [intOf]; omega
    · have hn : n ≤ 30 := by omega
      go_wp2_with fail
      clear hj hn1 hlt hy1
      refine (draw_below base _ _ _ HL1.out.cur).mono ?_
      rintro e w4 ⟨u, rfl, hu, hC2, hg2⟩
      have HL2 : Hid (NumSt w w4 base b n (.slice (some ⟨g, 0, none⟩) n cap)) := HL1.out.drawn hg2 hC2
      have hu1 : 0 ≤ u ∧ u < 20 := ⟨hu.1, hu.2.1 (by omega)⟩
      clear hC2 hg2 hu HL1
      by_cases u0 : u = 0
      · have d0 : (u == 0) = true := by simpa using u0
        have HL4 : Hid (NumSt w (w4.alloc (.cells #[.int .i64 (-1), .int .i64 (1 + x)] 3)) base b n (.slice (some ⟨g, 0, none⟩) n cap)) := HL2.out.alloc _
        have hbl := HL2.out.cur.lt
        go_wp2_with fail
        refine (draw_pickInt base b w4.heap.size 2 2 (fun x => -1 ≤ x ∧ x ≤ 20000) _ HL4.out.cur (by omega) (by omega) (by simp) (fun j hj => ?_)).mono ?_
        · match j, hj with
          | 0, _ => exact ⟨-1, by simp, by omega, by omega⟩
          | 1, _ => exact ⟨1 + x, by simp, by omega, by omega⟩
        rintro e w8 ⟨z, rfl, hz, hC8, hg8⟩
        have HL5 : Hid (NumSt w w8 base b n (.slice (some ⟨g, 0, none⟩) n cap)) := HL4.out.drawn hg8 hC8
        clear hC8 hg8 HL4 HL2
        go_wp2_with (at_builtin; refine num_append rfl _ _ rfl rfl HL5.out z hz.1 hz.2 rfl (by omega) ?_)
        · intro g1 c1 w9 hL3
          have HL6 : Hid (NumSt w w9 base b (n + 1) (.slice (some ⟨g1, 0, none⟩) (n + 1) c1)) := hL3
          clear hL3
          go_wp2_with fail
          go_ret2
          exact HL6.out.ends2 (by omega) _ (by omega) (by omega)
      · have d0 : (u == 0) = false := by simpa using u0
        by_cases u1 : u = 1
        · have d1 : (u == 1) = true := by simpa using u1
          have HL4 : Hid (NumSt w (w4.alloc (.cells #[.int .i64 0, .int .i64 (-1), .int .i64 288, .int .i64 289] 3)) base b n (.slice (some ⟨g, 0, none⟩) n cap)) := HL2.out.alloc _
          have hbl := HL2.out.cur.lt
          go_wp2_with fail
          refine (draw_pickInt base b w4.heap.size 4 4 (fun x => -1 ≤ x ∧ x ≤ 300) _ HL4.out.cur (by omega) (by omega) (by simp) (fun j hj => ?_)).mono ?_
          · match j, hj with
            | 0, _ => exact ⟨0, by simp, by omega, by omega⟩
            | 1, _ => exact ⟨-1, by simp, by omega, by omega⟩
            | 2, _ => exact ⟨288, by simp, by omega, by omega⟩
            | 3, _ => exact ⟨289, by simp, by omega, by omega⟩
          rintro e w8 ⟨z, rfl, hz, hC8, hg8⟩
          have HL5 : Hid (NumSt w w8 base b n (.slice (some ⟨g, 0, none⟩) n cap)) := HL4.out.drawn hg8 hC8
          clear hC8 hg8 HL4 HL2
          go_wp2_with fail
          go_ret2
          exact HL5.out.ends2 (by omega) _ hz.1 hz.2
        · have d1 : (u == 1) = false := by simpa using u1
          go_wp2_with fail
          go_ret2
          exact HL2.out.ends2 (by omega) _ (by omega) (by omega)

end Go.Proofs.Ytpecmolloohklaa
