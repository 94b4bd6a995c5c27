/-
  The walks of the model's draws of lengths for Runs.
-/
import Derived.Test.YtjdfmbdcfdafjaaRows
import Derived.Test.YtjdfmbdcfdafjaaBase
import Derived.Test.YtjdfmbdcfdafjaaOwnLib
import Derived.Test.YtjdfmbdcfdafjaaIntsLib
import Derived.Test.YtjdfmbdcfdafjaaDrawLib
import Derived.Test.YtjdfmbdcfdafjaaDrawPick
import Derived.Test.YtjdfmbdcfdafjaaNumLib
import Derived.WalkKit
import Derived.ProofKit
import Derived.WalkLawsBesides
import Derived.Deep.LoopGhost
import Derived.Lib.SmallJoins
namespace Go.Proofs.Ytjdfmbdcfdafjaa
open Go.RowKit Go.Joins

/-- Lengths that were drawn. -/
def LensDrawn (base : Nat) (w : World) (e : Ending) (w' : World) : Prop := ∃ (g n cap : Nat) (f : Nat → Int), e = .returned (.slice (some ⟨g, 0, none⟩) n cap) ∧ n ≤ 321 ∧ IOwn w' base g n cap f ∧ (∀ i, i < n → -1 ≤ f i ∧ f i ≤ 20000) ∧ Below base w w'
theorem NumSt.lens {w0 w : World} {base b n g cap : Nat} (h : NumSt w0 w base b n (.slice (some ⟨g, 0, none⟩) n cap)) (h2 : n ≤ 321) : LensDrawn base w0 (.returned (.slice (some ⟨g, 0, none⟩) n cap)) w := by
  have hb := h.below
  obtain ⟨f, hf, hf2⟩ := h.out
  exact ⟨g, n, cap, f, rfl, h2, hf, hf2, hb⟩
theorem prod_bd {u t : Int} (hu : 0 ≤ u ∧ u < 16) (ht : 0 ≤ t ∧ t < 3) : 0 ≤ u * t ∧ u * t ≤ 30 := by
  have h3 : t = 0 ∨ t = 1 ∨ t = 2 := by omega
  rcases h3 with rfl | rfl | rfl <;> omega

set_option maxHeartbeats 3200000 in
theorem draw_l05 (base b : Nat) (w : World) (hC : Cur w base b) :
    Calls Try.prog 25 #[.pointer (some ⟨b, 0, none⟩)] w (LensDrawn base w) := by
  have H0 : Hid (NumSt w (w.alloc (.cells #[] 3)) base b 0 (.slice (some ⟨w.heap.size, 0, none⟩) 0 0)) := NumSt.lit hC (Below.refl _ _) [] (by simp) rfl (by omega)
  clear hC
  go_enter Try.func25, Try.ntmps25
  go_wp2_with fail
  go_loopg [3, 4] 20 (fun gk v i w' => ∃ (j n g cap : Nat), j ≤ 9 ∧ n ≤ 31 * j ∧ 9 - j ≤ gk ∧ i = .int .i64 j ∧ v = .slice (some ⟨g, 0, none⟩) n cap ∧ Hid (NumSt w w' base b n (.slice (some ⟨g, 0, none⟩) n cap)))
  case atStart => exact ⟨0, 0, w.heap.size, 0, by omega, by omega, by omega, rfl, rfl, H0⟩
  case round =>
    clear H0
    obtain ⟨j, n, g, cap, hj, hn1, hgk, rfl, rfl, hL⟩ := hrel
    go_wp2_with fail
    refine (draw_below base _ _ _ hL.out.cur).mono ?_
    rintro e w1 ⟨y, rfl, hy, hC1, hg1⟩
    have HL1 : Hid (NumSt w w1 base b n (.slice (some ⟨g, 0, none⟩) n cap)) := hL.out.drawn hg1 hC1
    have hy1 : 0 ≤ y ∧ y < 9 := ⟨hy.1, hy.2.1 (by omega)⟩
    clear hC1 hg1 hy hL
    by_cases hlt : (j : Int) < y
    · have HL4 : Hid (NumSt w (w1.alloc (.cells #[.int .i64 0, .int .i64 0, .int .i64 3, .int .i64 5, .int .i64 15] 3)) base b n (.slice (some ⟨g, 0, none⟩) n cap)) := HL1.out.alloc _
      have hbl := HL1.out.cur.lt
      go_wp2_with fail
      refine (draw_pickInt base b w1.heap.size 5 5 (fun x => 0 ≤ x ∧ x ≤ 15) _ HL4.out.cur (by omega) (by omega) (by simp) (fun j hj => ?_)).mono ?_
      · match j, hj with
        | 0, _ => exact ⟨0, by simp, by omega, by omega⟩
        | 1, _ => exact ⟨0, by simp, by omega, by omega⟩
        | 2, _ => exact ⟨3, by simp, by omega, by omega⟩
        | 3, _ => exact ⟨5, by simp, by omega, by omega⟩
        | 4, _ => exact ⟨15, by simp, by omega, by omega⟩
      rintro e w8 ⟨x, rfl, hx, hC8, hg8⟩
      have HL5 : Hid (NumSt w w8 base b n (.slice (some ⟨g, 0, none⟩) n cap)) := HL4.out.drawn hg8 hC8
      clear hC8 hg8 HL4 HL1 hbl
      go_wp2_with fail
      go_loopg [3, 6] 40 (fun gk v i w' => ∃ (k m g cap : Nat), k ≤ 31 ∧ m ≤ 31 * j + k ∧ 31 - k ≤ gk ∧ i = .int .i64 k ∧ v = .slice (some ⟨g, 0, none⟩) m cap ∧ Hid (NumSt w w' base b m (.slice (some ⟨g, 0, none⟩) m cap)))
      case atStart => exact ⟨0, n, g, cap, by omega, by omega, by omega, rfl, rfl, HL5⟩
      case round =>
        clear HL5
        obtain ⟨k, m, g, cap, hk, hm1, hgk2, rfl, rfl, hL⟩ := hrel
        go_wp2_with fail
        refine (draw_below base _ _ _ hL.out.cur).mono ?_
        rintro e w1 ⟨u, rfl, hu, hC1, hg1⟩
        have HL1 : Hid (NumSt w w1 base b m (.slice (some ⟨g, 0, none⟩) m cap)) := hL.out.drawn hg1 hC1
        have hu1 : 0 ≤ u ∧ u < 16 := ⟨hu.1, hu.2.1 (by omega)⟩
        clear hC1 hg1 hu hL
        go_wp2_with fail
        refine (draw_below base _ _ _ HL1.out.cur).mono ?_
        rintro e w2 ⟨t, rfl, ht, hC2, hg2⟩
        have HL2 : Hid (NumSt w w2 base b m (.slice (some ⟨g, 0, none⟩) m cap)) := HL1.out.drawn hg2 hC2
        have ht1 : 0 ≤ t ∧ t < 3 := ⟨ht.1, ht.2.1 (by omega)⟩
        have hp := prod_bd hu1 ht1
        clear hC2 hg2 ht HL1
        generalize hpp : u * t = p at hp
        have ew : IntKind.i64.wrap p = p := by rw [IntKind.wrap_i64]; omega
        have ew2 : IntKind.i64.wrap (1 + p) = 1 + p := by rw [IntKind.wrap_i64]; omega
        by_cases hkp : (k : Int) < 1 + p
        · have dk : decide ((k : Int) < 1 + p) = true := decide_eq_true hkp
          go_wp2_with (at_builtin; refine num_append rfl _ _ rfl rfl HL2.out x (by omega) (by omega) rfl (by omega) ?_)
          intro g1 c1 w3 hL3
          have HL4 : Hid (NumSt w w3 base b (m + 1) (.slice (some ⟨g1, 0, none⟩) (m + 1) c1)) := hL3
          clear hL3
          go_wp2_with fail
          go_roundg (31 - (k + 1))
          case measure => omega
          case rel => exact ⟨k + 1, m + 1, g1, c1, by omega, by omega, Nat.le_refl _, by go_num, rfl, HL4⟩
        · have dk : decide ((k : Int) < 1 + p) = false := decide_eq_false hkp
          go_wp2_with fail
          go_roundg (9 - (j + 1))
          case measure => omega
          case rel => exact ⟨j + 1, m, g, cap, by omega, by omega, Nat.le_refl _, by go_num, rfl, HL2⟩
    · have hn : n ≤ 279 := by omega
      go_wp2_with fail
      clear hj hn1 hlt hy1
      refine (draw_below base _ _ _ HL1.out.cur).mono ?_
      rintro e w4 ⟨u, rfl, hu, hC2, hg2⟩
      have HL2 : Hid (NumSt w w4 base b n (.slice (some ⟨g, 0, none⟩) n cap)) := HL1.out.drawn hg2 hC2
      have hu1 : 0 ≤ u ∧ u < 30 := ⟨hu.1, hu.2.1 (by omega)⟩
      clear hC2 hg2 hu HL1
      by_cases u0 : u = 0
      · have d0 : (u == 0) = true := by simpa using u0
        have HL4 : Hid (NumSt w (w4.alloc (.cells #[.int .i64 (-1), .int .i64 16] 3)) base b n (.slice (some ⟨g, 0, none⟩) n cap)) := HL2.out.alloc _
        have hbl := HL2.out.cur.lt
        go_wp2_with fail
        refine (draw_pickInt base b w4.heap.size 2 2 (fun x => -1 ≤ x ∧ x ≤ 20000) _ HL4.out.cur (by omega) (by omega) (by simp) (fun j hj => ?_)).mono ?_
        · match j, hj with
          | 0, _ => exact ⟨-1, by simp, by omega, by omega⟩
          | 1, _ => exact ⟨16, by simp, by omega, by omega⟩
        rintro e w8 ⟨z, rfl, hz, hC8, hg8⟩
        have HL5 : Hid (NumSt w w8 base b n (.slice (some ⟨g, 0, none⟩) n cap)) := HL4.out.drawn hg8 hC8
        clear hC8 hg8 HL4 HL2
        have dn : decide ((321 : Int) < (n : Int) + 1) = false := decide_eq_false (by omega)
        go_wp2_with (at_builtin; refine num_append rfl _ _ rfl rfl HL5.out z hz.1 hz.2 rfl (by omega) ?_)
        · intro g1 c1 w9 hL3
          have HL6 : Hid (NumSt w w9 base b (n + 1) (.slice (some ⟨g1, 0, none⟩) (n + 1) c1)) := hL3
          clear hL3
          go_wp2_with fail
          go_ret
          exact HL6.out.lens (by omega)
      · have d0 : (u == 0) = false := by simpa using u0
        by_cases u1 : u = 1
        · have d1 : (u == 1) = true := by simpa using u1
          have HL4 : Hid (NumSt w (w4.alloc (.cells #[.int .i64 0, .int .i64 9] 3)) base b n (.slice (some ⟨g, 0, none⟩) n cap)) := HL2.out.alloc _
          have hbl := HL2.out.cur.lt
          go_wp2_with fail
          refine (draw_pickInt base b w4.heap.size 2 2 (fun x => 0 ≤ x ∧ x ≤ 9) _ HL4.out.cur (by omega) (by omega) (by simp) (fun j hj => ?_)).mono ?_
          · match j, hj with
            | 0, _ => exact ⟨0, by simp, by omega, by omega⟩
            | 1, _ => exact ⟨9, by simp, by omega, by omega⟩
          rintro e w8 ⟨z, rfl, hz, hC8, hg8⟩
          have HL5 : Hid (NumSt w w8 base b n (.slice (some ⟨g, 0, none⟩) n cap)) := HL4.out.drawn hg8 hC8
          clear hC8 hg8 HL4 HL2 hbl
          go_wp2_with fail
          go_loopg [3] 400 (fun gk v w' => ∃ (m g cap : Nat), m ≤ 321 ∧ 321 - m ≤ gk ∧ v = .slice (some ⟨g, 0, none⟩) m cap ∧ Hid (NumSt w w' base b m (.slice (some ⟨g, 0, none⟩) m cap)))
          case atStart => exact ⟨n, g, cap, by omega, by omega, rfl, HL5⟩
          case round =>
            clear HL5
            obtain ⟨m, g, cap, hm1, hgk2, rfl, hL⟩ := hrel
            go_wp2_with fail
            refine (draw_below base _ _ _ hL.out.cur).mono ?_
            rintro e w1 ⟨t, rfl, ht, hC1, hg1⟩
            have HL1 : Hid (NumSt w w1 base b m (.slice (some ⟨g, 0, none⟩) m cap)) := hL.out.drawn hg1 hC1
            have ht1 : 0 ≤ t ∧ t < 2 := ⟨ht.1, ht.2.1 (by omega)⟩
            clear hC1 hg1 ht hL
            by_cases hmt : (m : Int) < 320 + t
            · have dk : decide ((m : Int) < 320 + t) = true := decide_eq_true hmt
              go_wp2_with (at_builtin; refine num_append rfl _ _ rfl rfl HL1.out z (by omega) (by omega) rfl (by omega) ?_)
              intro g1 c1 w3 hL3
              have HL4 : Hid (NumSt w w3 base b (m + 1) (.slice (some ⟨g1, 0, none⟩) (m + 1) c1)) := hL3
              clear hL3
              go_wp2_with fail
              go_roundg (321 - (m + 1))
              case measure => omega
              case rel => exact ⟨m + 1, g1, c1, by omega, Nat.le_refl _, rfl, HL4⟩
            · have dk : decide ((m : Int) < 320 + t) = false := decide_eq_false hmt
              have dn : decide ((321 : Int) < (m : Int)) = false := decide_eq_false (by omega)
              go_wp2_with fail
              go_ret
              exact HL1.out.lens (by omega)
        · have d1 : (u == 1) = false := by simpa using u1
          have dn : decide ((321 : Int) < (n : Int)) = false := decide_eq_false (by omega)
          go_wp2_with fail
          go_ret
          exact HL2.out.lens (by omega)

theorem draw_runsOf (a : Option Addr) (len cap : Nat) (base : Nat) (w : World) (hK : CodeAt w base a len) (hlen : len ≤ 1048576) (hbase : base ≤ w.heap.size) :
    Calls Try.prog 8 #[.slice a len cap] w (LensDrawn base w) := by
  have HK : Hid (CodeAt w base a len) := hK
  clear hK
  go_enter Try.func8, Try.ntmps8
  go_wp2_with fail
  refine (draw_new a len cap base w HK.out hlen hbase).mono ?_
  rintro e w1 ⟨rfl, hC1, o, rfl⟩
  have HB1 : Hid (Below base w (w.alloc o)) := (Below.refl base w).alloc hbase o
  obtain ⟨b, hb⟩ : ∃ b, b = w.heap.size := ⟨_, rfl⟩
  have HC1 : Hid (Cur (w.alloc o) base b) := by rw [hb]; exact hC1
  clear hC1
  generalize w.alloc o = w2 at *
  rw [← hb]
  clear hb hbase
  go_wp2_with fail
  refine (draw_l05 base b w2 HC1.out).mono ?_
  rintro e w3 ⟨g, n, cap, f, rfl, h1, h2, h3, h4⟩
  have HZ : Hid (n ≤ 321 ∧ IOwn w3 base g n cap f ∧ (∀ i, i < n → -1 ≤ f i ∧ f i ≤ 20000) ∧ Below base w w3) := ⟨h1, h2, h3, HB1.out.trans h4⟩
  clear h1 h2 h3 h4
  go_wp2_with fail
  go_ret
  exact ⟨g, n, cap, f, rfl, HZ.out⟩

end Go.Proofs.Ytjdfmbdcfdafjaa
