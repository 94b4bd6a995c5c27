/-
  The walk of the model's draw of samples and a depth.
-/
import Derived.Test.YtpocfmopeaajaaaRows
import Derived.Test.YtpocfmopeaajaaaBase
import Derived.Test.YtpocfmopeaajaaaOwnLib
import Derived.Test.YtpocfmopeaajaaaIntsLib
import Derived.Test.YtpocfmopeaajaaaMakeLib
import Derived.Test.YtpocfmopeaajaaaOutMath
import Derived.Test.YtpocfmopeaajaaaPowWalks
import Derived.Test.YtpocfmopeaajaaaDrawLib
import Derived.Test.YtpocfmopeaajaaaDrawPick
import Derived.Test.YtpocfmopeaajaaaDrawList
import Derived.Test.YtpocfmopeaajaaaNumLib12
import Derived.WalkKit
import Derived.ProofKit
import Derived.WalkLawsBesides
import Derived.Lib.SmallJoins
namespace Go.Proofs.Ytpocfmopeaajaaa
open Go.RowKit Go.Joins OutMath

/-- What is drawn: a list of numbers, and a number. -/
def RowDrawn (base : Nat) (w : World) (e : Ending) (w' : World) : Prop := ∃ (g n cap : Nat) (f : Nat → Int) (z : Int), e = .returned (.tuple #[.slice (some ⟨g, 0, none⟩) n cap, .int .i64 z]) ∧ n ≤ 100 ∧ IOwn w' base g n cap f ∧ Below base w w'
theorem NumZ.ends {w0 w : World} {base b n g cap : Nat} (h : NumZ w0 w base b n (.slice (some ⟨g, 0, none⟩) n cap)) (h2 : n ≤ 100) (z : Int) : RowDrawn base w0 (.returned (.tuple #[.slice (some ⟨g, 0, none⟩) n cap, .int .i64 z])) w := by
  have hb := h.below
  obtain ⟨f, hf⟩ := h.out
  exact ⟨g, n, cap, f, z, rfl, h2, hf, hb⟩
set_option maxHeartbeats 1600000 in
theorem draw_packRow (a : Option Addr) (len cap : Nat) (base : Nat) (w : World) (hK : CodeAt w base a len) (hlen : len ≤ 1048576) (hbase : base ≤ w.heap.size) :
    Calls Try.prog 7 #[.slice a len cap] w (RowDrawn base w) := by
  have HK : Hid (CodeAt w base a len) := hK
  clear hK
  go_enter Try.func7, Try.ntmps7
  go_wp2_with fail
  refine (draw_new a len cap base w HK.out hlen hbase).mono ?_
  rintro e w1 ⟨rfl, hC1, o, rfl⟩
  have HB1 : Hid (Below base w (w.alloc o)) := (Below.refl base w).alloc hbase o
  obtain ⟨b, hb⟩ : ∃ b, b = w.heap.size := ⟨_, rfl⟩
  have HC1 : Hid (Cur (w.alloc o) base b) := by rw [hb]; exact hC1
  clear hC1
  generalize w.alloc o = w2 at *
  rw [← hb]
  clear hb hbase
  have hl2 := HC1.out.lt
  have hb2 := HC1.out.base_le
  have HC2 : Hid (Cur (w2.alloc (.cells #[.int .i64 1, .int .i64 2, .int .i64 4, .int .i64 8, .int .i64 16] 3)) base b) := HC1.out.alloc _
  go_wp2_with fail
  refine (draw_pickInt base b w2.heap.size 5 5 (fun x => 1 ≤ x ∧ x ≤ 16) _ HC2.out (by omega) (by omega) (by simp) (fun j hj => ?_)).mono ?_
  · match j, hj with
    | 0, _ => exact ⟨1, by simp, by omega, by omega⟩
    | 1, _ => exact ⟨2, by simp, by omega, by omega⟩
    | 2, _ => exact ⟨4, by simp, by omega, by omega⟩
    | 3, _ => exact ⟨8, by simp, by omega, by omega⟩
    | 4, _ => exact ⟨16, by simp, by omega, by omega⟩
  rintro e w3 ⟨d, rfl, hd, hC3, hg3⟩
  obtain ⟨k, rfl⟩ := Int.eq_ofNat_of_zero_le (show 0 ≤ d by omega)
  have hk16 : k ≤ 16 := by omega
  have hp := fun W => pow_any k W (by omega)
  have hpp := p2_pos k
  have H0 : Hid (NumZ w (w3.alloc (.cells #[] 3)) base b 0 (.slice (some ⟨w3.heap.size, 0, none⟩) 0 0)) := NumZ.lit hC3 ((HB1.out.alloc (by omega) _).trans (below_of_grown hg3 hb2 (by simp; omega))) [] rfl (by omega)
  clear hC3 hg3 hd HB1 HC1 HC2 hl2 hb2
  generalize p2 k = P at hp hpp
  go_wp2_with fail
  go_loopw [6, 7] (fun v i w' => ∃ (j n g cap : Nat), j ≤ 20 ∧ n ≤ j ∧ i = .int .i64 j ∧ v = .slice (some ⟨g, 0, none⟩) n cap ∧ Hid (NumZ w w' base b n (.slice (some ⟨g, 0, none⟩) n cap))) (fun _ i _ => 20 - (intOf i).toNat)
  case atStart => exact ⟨0, 0, w3.heap.size, 0, by omega, by omega, rfl, rfl, H0⟩
  case round =>
    clear H0
    obtain ⟨j, n, g, cap, hj, hn1, rfl, rfl, hL⟩ := hrel
    go_wp2_with fail
    refine (draw_below base _ _ _ hL.out.cur).mono ?_
    rintro e w1 ⟨y, rfl, hy, hC1, hg1⟩
    have HL1 : Hid (NumZ w w1 base b n (.slice (some ⟨g, 0, none⟩) n cap)) := hL.out.drawn hg1 hC1
    have hy1 : 0 ≤ y ∧ y < 20 := ⟨hy.1, hy.2.1 (by omega)⟩
    clear hC1 hg1 hy hL
    by_cases hlt : (j : Int) < y
    · go_wp2_with fail
      refine (hp _).mono ?_
      rintro e w4 ⟨rfl, rfl⟩
      go_wp2_with fail
      refine (draw_below base _ _ _ HL1.out.cur).mono ?_
      rintro e w2 ⟨u, rfl, hu, hC2, hg2⟩
      have HL2 : Hid (NumZ w w2 base b n (.slice (some ⟨g, 0, none⟩) n cap)) := HL1.out.drawn hg2 hC2
      clear hC2 hg2 hu HL1
      go_wp2_with (at_builtin; refine numz_append rfl _ _ rfl rfl HL2.out u rfl (by omega) ?_)
      · intro g1 c1 w3 hL3
        have HL4 : Hid (NumZ w w3 base b (n + 1) (.slice (some ⟨g1, 0, none⟩) (n + 1) c1)) := hL3
        clear hL3
        go_wp2_with fail
        go_roundw
        case rel => exact ⟨j + 1, n + 1, g1, c1, by omega, by omega, by go_num, rfl, HL4⟩
        case measure => simp [intOf]; omega
    · have hn : n ≤ 20 := by omega
      go_wp2_with fail
      clear hj hn1 hlt hy1
      refine (draw_below base _ _ _ HL1.out.cur).mono ?_
      rintro e w4 ⟨u, rfl, hu, hC2, hg2⟩
      have HL2 : Hid (NumZ w w4 base b n (.slice (some ⟨g, 0, none⟩) n cap)) := HL1.out.drawn hg2 hC2
      have hbl := HL2.out.cur.lt
      clear hC2 hg2 hu HL1
      by_cases u0 : u = 0
      · have d0 : (u == 0) = true := by simpa using u0
        have HL4 : Hid (NumZ w (w4.alloc (.cells #[.int .i64 (-1), .int .i64 P] 3)) base b n (.slice (some ⟨g, 0, none⟩) n cap)) := HL2.out.alloc _
        go_wp2_with fail
        refine (hp _).mono ?_
        rintro e w5 ⟨rfl, rfl⟩
        go_wp2_with fail
        refine (draw_pickInt base b w5.heap.size 2 2 (fun _ => True) _ HL4.out.cur (by omega) (by omega) (by simp) (fun j hj => ?_)).mono ?_
        · match j, hj with
          | 0, _ => exact ⟨-1, by simp, trivial⟩
          | 1, _ => exact ⟨P, by simp, trivial⟩
        rintro e w8 ⟨z, rfl, hz, hC8, hg8⟩
        have HL5 : Hid (NumZ w w8 base b n (.slice (some ⟨g, 0, none⟩) n cap)) := HL4.out.drawn hg8 hC8
        clear hC8 hg8 HL4 HL2
        go_wp2_with (at_builtin; refine numz_append rfl _ _ rfl rfl HL5.out z rfl (by omega) ?_)
        · intro g1 c1 w9 hL3
          have HL6 : Hid (NumZ w w9 base b (n + 1) (.slice (some ⟨g1, 0, none⟩) (n + 1) c1)) := hL3
          clear hL3
          go_wp2_with fail
          go_ret2
          exact HL6.out.ends (by omega) _
      · have d0 : (u == 0) = false := by simpa using u0
        by_cases u1 : u = 1
        · have d1 : (u == 1) = true := by simpa using u1
          have HL4 : Hid (NumZ w (w4.alloc (.cells #[.int .i64 0, .int .i64 3, .int .i64 5, .int .i64 (-1), .int .i64 32] 3)) base b n (.slice (some ⟨g, 0, none⟩) n cap)) := HL2.out.alloc _
          go_wp2_with fail
          refine (draw_pickInt base b w4.heap.size 5 5 (fun _ => True) _ HL4.out.cur (by omega) (by omega) (by simp) (fun j hj => ?_)).mono ?_
          · match j, hj with
            | 0, _ => exact ⟨0, by simp, trivial⟩
            | 1, _ => exact ⟨3, by simp, trivial⟩
            | 2, _ => exact ⟨5, by simp, trivial⟩
            | 3, _ => exact ⟨-1, by simp, trivial⟩
            | 4, _ => exact ⟨32, by simp, trivial⟩
          rintro e w8 ⟨z, rfl, hz, hC8, hg8⟩
          have HL5 : Hid (NumZ w w8 base b n (.slice (some ⟨g, 0, none⟩) n cap)) := HL4.out.drawn hg8 hC8
          clear hC8 hg8 HL4 HL2
          go_wp2_with fail
          go_ret2
          exact HL5.out.ends (by omega) _
        · have d1 : (u == 1) = false := by simpa using u1
          by_cases u2 : u = 2
          · have d2 : (u == 2) = true := by simpa using u2
            go_wp2_with fail
            refine (draw_below base _ _ _ HL2.out.cur).mono ?_
            rintro e w8 ⟨z, rfl, hz, hC8, hg8⟩
            have HL5 : Hid (NumZ w w8 base b n (.slice (some ⟨g, 0, none⟩) n cap)) := HL2.out.drawn hg8 hC8
            have hz1 : 0 ≤ z ∧ z < 2 := ⟨hz.1, hz.2.1 (by omega)⟩
            obtain ⟨m, hm⟩ := Int.eq_ofNat_of_zero_le (show 0 ≤ 96 + z by omega)
            have hmk := make_ints w8 m (by omega)
            have HE : Hid (RowDrawn base w (.returned (.tuple #[.slice (some ⟨w8.heap.size, 0, none⟩) m m, .int .i64 (k : Int)])) (w8.alloc (.cells (madeCells #[Value.int .i64 0] m) 3))) := by
              have hl := HL5.out.cur.lt
              have hb := HL5.out.cur.base_le
              exact ⟨_, _, _, _, _, rfl, by omega, IOwn.made w8 m (by unfold maxLen; omega) (by omega), HL5.out.below.alloc (by omega) _⟩
            have hm2 : (m : Int) ≤ 97 := by omega
            clear hC8 hg8 hz HL5 HL2
            go_wp2_with fail
            go_ret2
            exact HE.out
          · have d2 : (u == 2) = false := by simpa using u2
            go_wp2_with fail
            go_ret2
            exact HL2.out.ends (by omega) _
end Go.Proofs.Ytpocfmopeaajaaa
