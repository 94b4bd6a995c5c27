/-
  The walk of an Out that the model draws.
-/
import Derived.Test.YtdjpjdjljobalaaRows
import Derived.Test.YtdjpjdjljobalaaBase
import Derived.Test.YtdjpjdjljobalaaOutMath
import Derived.Test.YtdjpjdjljobalaaOutWalks
import Derived.Test.YtdjpjdjljobalaaPutMath
import Derived.Test.YtdjpjdjljobalaaOwnLib
import Derived.Test.YtdjpjdjljobalaaPutSpec
import Derived.Test.YtdjpjdjljobalaaMayWalks
import Derived.Test.YtdjpjdjljobalaaPlacesWalks
import Derived.Test.YtdjpjdjljobalaaPutBitsWalks
import Derived.Test.YtdjpjdjljobalaaDrawLib
import Derived.Test.YtdjpjdjljobalaaDrawBits
import Derived.WalkKit
import Derived.ProofKit
import Derived.WalkLawsBesides
import Derived.Deep.RegionWith
import Derived.Deep.DrawnRows
import Derived.Lib.SmallJoins
namespace Go.Proofs.Ytdjpjdjljobalaa
open Go.RowKit Go.Joins OutMath PutMath

attribute [local go_sem ↓] Go.wp_at_zero Go.wp_at_succ

theorem specPut_some (s : ByteArray) (c x n : Int) (w : World) (hs : s.size ≤ 12001) (hc1 : -9223372036854775808 ≤ c) (hc2 : c ≤ 9223372036854775807) :
    Calls Try.prog 30 #[.agg #[.string s, .int .i64 c], .int .i64 x, .int .i64 n] w fun e w' => ∃ (t : ByteArray) (k : Int) (ok : Bool), e = .returned (.tuple #[.agg #[.string t, .int .i64 k], .bool ok]) ∧ t.size ≤ 12000 ∧ 0 ≤ k ∧ k ≤ 96000 ∧ Below w.heap.size w w' := by
  by_cases h : May s c x n
  · have h0 : 0 ≤ c := (fits_of_outB s c h.1).2.1
    obtain ⟨m, rfl⟩ := Int.eq_ofNat_of_zero_le h.2.1
    obtain ⟨a, rfl⟩ := Int.eq_ofNat_of_zero_le h0
    refine (specPutBits_yes s a x m w h).mono ?_
    rintro e w1 ⟨rfl, hb⟩
    have hI := inv_puts (f := fun j => bitOf x ((fun j => j) j)) (bytes_inv s a h.1) (fun k => bitOf_01 _ _) m
    have h6 := h.2.2.2.2.2
    refine ⟨_, _, _, rfl, ?_, by omega, by omega, hb⟩
    unfold putOut
    rw [strOfNums_size, hI.1]
    omega
  · refine (specPutBits_no s c x n w (by unfold maxLen; omega) hc1 hc2 h).mono ?_
    rintro e w1 ⟨rfl, hb⟩
    exact ⟨_, _, _, rfl, Nat.zero_le _, by omega, by omega, hb⟩

/-- Block k is an Out of the text s and the number c. -/
def OutBox (w : World) (k : Nat) (s : ByteArray) (c : Int) : Prop := w.heap[k]? = some (.cells #[.string s, .int .i64 c] 28 (0, 0))
section
variable {w w' : World} {k : Nat} {s : ByteArray} {c : Int}
theorem OutBox.c0 (h : OutBox w k s c) : w.cell? ⟨k, 0, none⟩ = some (.string s) := cell_of_block h 0
theorem OutBox.c1 (h : OutBox w k s c) : w.cell? ⟨k, 1, none⟩ = some (.int .i64 c) := cell_of_block h 1
theorem OutBox.f (h : OutBox w k s c) (i : Nat) : w.frozen? ⟨k, i, none⟩ = false := unfrozen_of_block h i
theorem OutBox.lt (h : OutBox w k s c) : k < w.heap.size := by
  rcases Nat.lt_or_ge k w.heap.size with q | q
  · exact q
  · unfold OutBox at h; rw [Array.getElem?_eq_none q] at h; cases h
theorem OutBox.grown {b : Nat} (h : OutBox w k s c) (hg : w.grownBy w' (some b)) (hne : k ≠ b) : OutBox w' k s c := (hg.block k h.lt (by simpa using hne)).trans h
theorem OutBox.below (h : OutBox w k s c) (hg : Below w.heap.size w w') : OutBox w' k s c := (hg.block k h.lt).trans h
theorem OutBox.set0 (h : OutBox w k s c) (t : ByteArray) : OutBox (w.setCell ⟨k, 0, none⟩ (.string t)) k t c := by
  have := block_setCell (i := 0) h (.string t)
  simpa [OutBox] using this
theorem OutBox.set1 (h : OutBox w k s c) (x : Int) : OutBox (w.setCell ⟨k, 1, none⟩ (.int .i64 x)) k s x := by
  have := block_setCell (i := 1) h (.int .i64 x)
  simpa [OutBox] using this
theorem OutBox.other (h : OutBox w k s c) (p : Addr) (v : Value) (hne : p.block ≠ k) : OutBox (w.setCell p v) k s c := (Below.heap_setCell w p v k (Ne.symm hne)).trans h
end

/-- All that the draw of an Out has at hand: the cursor, the result's block, the local one. -/
def DrawSt (w0 w : World) (base b : Nat) (s : ByteArray) (c : Int) : Prop :=
  Cur w base b ∧ OutBox w w0.heap.size ⟨#[]⟩ 0 ∧ OutBox w (w0.heap.size + 1) s c ∧ w0.grownBy w (some b) ∧ b < w0.heap.size

theorem DrawSt.grown {w0 w w' : World} {base b : Nat} {s : ByteArray} {c : Int} (h : DrawSt w0 w base b s c) (hg : w.grownBy w' (some b)) (hC : Cur w' base b) : DrawSt w0 w' base b s c := by
  obtain ⟨_, h2, h3, h4, h5⟩ := h
  exact ⟨hC, h2.grown hg (by omega), h3.grown hg (by omega), grown_trans h4 hg, h5⟩
theorem DrawSt.below {w0 w w' : World} {base b : Nat} {s : ByteArray} {c : Int} (h : DrawSt w0 w base b s c) (hg : Below w.heap.size w w') : DrawSt w0 w' base b s c := by
  obtain ⟨h1, h2, h3, h4, h5⟩ := h
  have hl := h1.lt
  have hb := h1.base_le
  exact ⟨h1.keep (hg.block b hl) (hg.mono (by omega)), h2.below hg, h3.below hg, grown_trans h4 (grown_of_below hg _), h5⟩
/-- Behind the stores of a new Out into the local one. -/
theorem DrawSt.store {w0 w : World} {base b : Nat} {s t : ByteArray} {c k : Int} (h : DrawSt w0 w base b s c) : DrawSt w0 ((w.setCell ⟨w0.heap.size + 1, 0, none⟩ (.string t)).setCell ⟨w0.heap.size + 1, 1, none⟩ (.int .i64 k)) base b t k := by
  obtain ⟨h1, h2, h3, h4, h5⟩ := h
  have hb := h1.base_le
  refine ⟨(h1.setCell _ _ (by simp; omega) (by simp; omega)).setCell _ _ (by simp; omega) (by simp; omega), (h2.other _ _ (by simp)).other _ _ (by simp), (h3.set0 t).set1 k, ?_, h5⟩
  refine ⟨h4.os, h4.tape, h4.output, by simpa using h4.size, fun i hi hne => ?_⟩
  rw [Below.heap_setCell _ _ _ i (by simp; omega), Below.heap_setCell _ _ _ i (by simp; omega)]
  exact h4.block i hi hne
theorem DrawSt.store0 {w0 w : World} {base b : Nat} {s t : ByteArray} {c : Int} (h : DrawSt w0 w base b s c) : DrawSt w0 (w.setCell ⟨w0.heap.size + 1, 0, none⟩ (.string t)) base b t c := by
  obtain ⟨h1, h2, h3, h4, h5⟩ := h
  have hb := h1.base_le
  refine ⟨h1.setCell _ _ (by simp; omega) (by simp; omega), h2.other _ _ (by simp), h3.set0 t, ?_, h5⟩
  refine ⟨h4.os, h4.tape, h4.output, by simpa using h4.size, fun i hi hne => ?_⟩
  rw [Below.heap_setCell _ _ _ i (by simp; omega)]
  exact h4.block i hi hne
theorem DrawSt.store1 {w0 w : World} {base b : Nat} {s : ByteArray} {c k : Int} (h : DrawSt w0 w base b s c) : DrawSt w0 (w.setCell ⟨w0.heap.size + 1, 1, none⟩ (.int .i64 k)) base b s k := by
  obtain ⟨h1, h2, h3, h4, h5⟩ := h
  have hb := h1.base_le
  refine ⟨h1.setCell _ _ (by simp; omega) (by simp; omega), h2.other _ _ (by simp), h3.set1 k, ?_, h5⟩
  refine ⟨h4.os, h4.tape, h4.output, by simpa using h4.size, fun i hi hne => ?_⟩
  rw [Below.heap_setCell _ _ _ i (by simp; omega)]
  exact h4.block i hi hne
theorem DrawSt.drew {w0 w : World} {base b : Nat} {s : ByteArray} {c : Int} (h : DrawSt w0 w base b s c) : DrawSt w0 w.drew base b s c := by
  obtain ⟨h1, h2, h3, h4, h5⟩ := h
  exact ⟨h1.drew, h2, h3, ⟨h4.os, h4.tape, h4.output, h4.size, h4.block⟩, h5⟩

theorem draw_end {w0 w : World} {base b : Nat} {s t : ByteArray} {c k : Int} (h : DrawSt w0 w base b s c) : Cur ((w.setCell ⟨w0.heap.size, 0, none⟩ (.string t)).setCell ⟨w0.heap.size, 1, none⟩ (.int .i64 k)) base b ∧ w0.grownBy ((w.setCell ⟨w0.heap.size, 0, none⟩ (.string t)).setCell ⟨w0.heap.size, 1, none⟩ (.int .i64 k)) (some b) := by
  obtain ⟨h1, h2, h3, h4, h5⟩ := h
  have hb := h1.base_le
  refine ⟨(h1.setCell _ _ (by simp; omega) (by simp; omega)).setCell _ _ (by simp; omega) (by simp; omega), ?_⟩
  refine ⟨h4.os, h4.tape, h4.output, by simpa using h4.size, fun i hi hne => ?_⟩
  rw [Below.heap_setCell _ _ _ i (by simp; omega), Below.heap_setCell _ _ _ i (by simp; omega)]
  exact h4.block i hi hne

set_option maxHeartbeats 1600000 in
theorem draw_out (base b : Nat) (w : World) (hC : Cur w base b) :
    Calls Try.prog 44 #[.pointer (some ⟨b, 0, none⟩)] w fun e w' => ∃ (s : ByteArray) (c : Int), e = .returned (.agg #[.string s, .int .i64 c]) ∧ s.size ≤ 12001 ∧ -9223372036854775808 ≤ c ∧ c ≤ 9223372036854775807 ∧ Cur w' base b ∧ w.grownBy w' (some b) := by
  have HC : Hid (Cur w base b) := hC
  have hbl := hC.lt
  clear hC
  go_enter Try.func44, Try.ntmps44
  go_wp2_with fail
  have hS0 : DrawSt w ((w.alloc (.cells #[.string ⟨#[]⟩, .int .i64 0] 28)).alloc (.cells #[.string ⟨#[]⟩, .int .i64 0] 28)) base b ⟨#[]⟩ 0 := by
    refine ⟨(HC.out.alloc _).alloc _, ?_, ?_, grown_alloc (grown_alloc (grown_refl _ _) _) _, hbl⟩
    · show ((w.heap.push _).push _)[w.heap.size]? = _
      rw [Array.getElem?_push, if_neg (by simp), Array.getElem?_push, if_pos rfl]
    · show ((w.heap.push _).push _)[w.heap.size + 1]? = _
      rw [Array.getElem?_push, if_pos (by simp)]
  have HS0 : Hid (DrawSt w ((w.alloc (.cells #[.string ⟨#[]⟩, .int .i64 0] 28)).alloc (.cells #[.string ⟨#[]⟩, .int .i64 0] 28)) base b ⟨#[]⟩ 0) := hS0
  clear hS0
  go_loopw [4] (fun i w' => ∃ (j : Nat) (s : ByteArray) (c : Int), j ≤ 6 ∧ i = .int .i64 j ∧ s.size ≤ 12000 ∧ 0 ≤ c ∧ c ≤ 96000 ∧ Hid (DrawSt w w' base b s c)) (fun i _ => 6 - (intOf i).toNat)
  case atStart => exact ⟨0, _, _, by omega, rfl, Nat.zero_le _, by omega, by omega, HS0⟩
  case round =>
    obtain ⟨j, s, c, hj, rfl, hs, hc0, hc1, hS⟩ := hrel
    go_wp2_with fail
    refine (draw_below base b _ _ hS.out.1).mono ?_
    rintro e w1 ⟨x, rfl, hx, hC1, hg1⟩
    have HS1 : Hid (DrawSt w w1 base b s c) := hS.out.grown hg1 hC1
    have hx6 : x < 6 := hx.2.1 (by omega)
    clear hC1 hg1 hx
    by_cases hlt : (j : Int) < x
    · go_wp2_with fail
      refine (draw_below base b _ _ HS1.out.1).mono ?_
      rintro e w2 ⟨n, rfl, hn, hC2, hg2⟩
      have HS2 : Hid (DrawSt w w2 base b s c) := HS1.out.grown hg2 hC2
      have hn1 : 0 ≤ n ∧ n < 25 := ⟨hn.1, hn.2.1 (by omega)⟩
      have k0 := HS2.out.2.2.1.c0
      have k1 := HS2.out.2.2.1.c1
      have kf := HS2.out.2.2.1.f
      clear hC2 hg2 hn
      go_wp2_with fail
      go_region_with (first | (go_at_call 34; refine (pow_int _ _ ?_ ?_).mono ?_; omega; omega; rintro e w' ⟨rfl, rfl⟩) | (go_at_call 33; refine (draw_below base b _ _ (Cur.drew HS2.out.1)).mono ?_; rintro e w3 ⟨y, rfl, hy, hC3, hg3⟩; have HS3 : Hid (DrawSt w w3 base b s c) := HS2.out.drew.grown hg3 hC3; have q0 := HS3.out.2.2.1.c0; have q1 := HS3.out.2.2.1.c1; clear hy hC3 hg3) | (go_at_call 30; refine (specPut_some s c _ _ _ (by omega) (by omega) (by omega)).mono ?_; rintro e w4 ⟨t, k, ok, rfl, ht, hk0, hk1, hb4⟩; have HS4 : Hid (DrawSt w w4 base b s c) := HS3.out.below hb4; have r0 := HS4.out.2.2.1.c0; have r1 := HS4.out.2.2.1.c1; have rf := HS4.out.2.2.1.f; clear hb4))
      all_goals
        go_wp2_with fail
        go_roundw
        case rel => exact ⟨j + 1, t, k, by omega, by go_num, ht, hk0, hk1, HS4.out.store⟩
        case measure => simp [intOf]; omega
    · go_wp2_with fail
      refine (draw_below base b _ _ HS1.out.1).mono ?_
      rintro e w2 ⟨y, rfl, hy, hC2, hg2⟩
      have HS2 : Hid (DrawSt w w2 base b s c) := HS1.out.grown hg2 hC2
      have k0 := HS2.out.2.2.1.c0
      have k1 := HS2.out.2.2.1.c1
      have kf := HS2.out.2.2.1.f
      have z0 := HS2.out.2.1.c0
      have z1 := HS2.out.2.1.c1
      have zf := HS2.out.2.1.f
      have hw2 := HS2.out.2.2.1.lt
      clear hC2 hg2 hy
      by_cases y0 : y = 0
      · subst y0
        go_wp2_with fail
        refine (draw_pickInt base b w2.heap.size 4 4 (fun x => -9223372036854775808 ≤ x ∧ x ≤ 9223372036854775807) _ (HS2.out.1.alloc _) (by omega) (by omega) (by simp) ?_).mono ?_
        · intro i hi
          have hi4 : i = 0 ∨ i = 1 ∨ i = 2 ∨ i = 3 := by omega
          rcases hi4 with rfl | rfl | rfl | rfl <;> refine ⟨_, cell_of_block (heap_alloc_new w2 _) _, ?_⟩ <;> constructor <;> omega
        · rintro e w3 ⟨p, rfl, hp, hC3, hg3⟩
          have HS3 : Hid (DrawSt w w3 base b s c) := (HS2.out.below (bstart _ _)).grown hg3 hC3
          clear hC3 hg3 k0 k1 kf z0 z1 zf hw2
          have k0 := HS3.out.2.2.1.c0
          have k1 := HS3.out.2.2.1.c1
          have kf := HS3.out.2.2.1.f
          have z0 := HS3.out.2.1.c0
          have z1 := HS3.out.2.1.c1
          have zf := HS3.out.2.1.f
          have hw3 := HS3.out.2.2.1.lt
          go_wp2_with fail
          refine bodyPost_ret (v := .agg #[.string s, .int .i64 p]) ?_ rfl ⟨_, _, rfl, by omega, hp.1, hp.2, ?_⟩
          · simp [results, Try.results44, go_sem, z0, z1]
          · exact draw_end (HS3.out.store1 (k := p))
      · have n0 : (y == 0) = false := by simpa using y0
        by_cases y1 : y = 1
        · subst y1
          have hsz : s.size + 1 ≤ 9223372036854775807 := by omega
          go_wp2_with fail
          refine bodyPost_ret (v := .agg #[.string (s ++ ⟨#[255]⟩), .int .i64 c]) ?_ rfl ⟨_, _, rfl, by rw [ByteArray.size_append]; show s.size + 1 ≤ 12001; omega, by omega, by omega, ?_⟩
          · simp [results, Try.results44, go_sem, z0, z1]
          · exact draw_end (HS2.out.store0 (t := s ++ ⟨#[255]⟩))
        · have n1 : (y == 1) = false := by simpa using y1
          by_cases y2 : y = 2
          · subst y2
            go_wp2_with fail
            refine (draw_long 12000 255 _ (by omega) (by omega)).mono ?_
            rintro e w3 ⟨t, rfl, ht, hb3⟩
            have HS3 : Hid (DrawSt w w3 base b s c) := HS2.out.below hb3
            have HT : Hid (t.size = 12000) := ht
            clear hb3 ht k0 k1 kf z0 z1 zf hw2
            have k0 := HS3.out.2.2.1.c0
            have k1 := HS3.out.2.2.1.c1
            have kf := HS3.out.2.2.1.f
            have z0 := HS3.out.2.1.c0
            have z1 := HS3.out.2.1.c1
            have zf := HS3.out.2.1.f
            have hw3 := HS3.out.2.2.1.lt
            go_wp2_with fail
            refine bodyPost_ret (v := .agg #[.string t, .int .i64 96000]) ?_ rfl ⟨_, _, rfl, by rw [HT.out]; omega, by omega, by omega, ?_⟩
            · simp [results, Try.results44, go_sem, z0, z1]
            · exact draw_end (HS3.out.store (t := t) (k := 96000))
          · have n2 : (y == 2) = false := by simpa using y2
            by_cases y3 : y = 3
            · subst y3
              go_wp2_with fail
              refine (draw_long 12000 1 _ (by omega) (by omega)).mono ?_
              rintro e w3 ⟨t, rfl, ht, hb3⟩
              have HS3 : Hid (DrawSt w w3 base b s c) := HS2.out.below hb3
              have HT : Hid (t.size = 12000) := ht
              clear hb3 ht
              go_wp2_with fail
              refine (draw_below base b _ _ HS3.out.1).mono ?_
              rintro e w4 ⟨q, rfl, hq, hC4, hg4⟩
              have HS4 : Hid (DrawSt w w4 base b s c) := HS3.out.grown hg4 hC4
              have hq1 : 0 ≤ q ∧ q < 7 := ⟨hq.1, hq.2.1 (by omega)⟩
              clear hC4 hg4 hq k0 k1 kf z0 z1 zf hw2
              have k0 := HS4.out.2.2.1.c0
              have k1 := HS4.out.2.2.1.c1
              have kf := HS4.out.2.2.1.f
              have z0 := HS4.out.2.1.c0
              have z1 := HS4.out.2.1.c1
              have zf := HS4.out.2.1.f
              have hw3 := HS4.out.2.2.1.lt
              go_wp2_with fail
              refine bodyPost_ret (v := .agg #[.string t, .int .i64 (95999 - q)]) ?_ rfl ⟨_, _, rfl, by rw [HT.out]; omega, by omega, by omega, ?_⟩
              · simp [results, Try.results44, go_sem, z0, z1]
              · exact draw_end (HS4.out.store (t := t) (k := 95999 - q))
            · have n3 : (y == 3) = false := by simpa using y3
              by_cases y4 : y = 4
              · subst y4
                go_wp2_with fail
                refine (draw_long 12001 1 _ (by omega) (by omega)).mono ?_
                rintro e w3 ⟨t, rfl, ht, hb3⟩
                have HS3 : Hid (DrawSt w w3 base b s c) := HS2.out.below hb3
                have HT : Hid (t.size = 12001) := ht
                clear hb3 ht k0 k1 kf z0 z1 zf hw2
                have k0 := HS3.out.2.2.1.c0
                have k1 := HS3.out.2.2.1.c1
                have kf := HS3.out.2.2.1.f
                have z0 := HS3.out.2.1.c0
                have z1 := HS3.out.2.1.c1
                have zf := HS3.out.2.1.f
                have hw3 := HS3.out.2.2.1.lt
                go_wp2_with fail
                refine bodyPost_ret (v := .agg #[.string t, .int .i64 96008]) ?_ rfl ⟨_, _, rfl, by rw [HT.out]; omega, by omega, by omega, ?_⟩
                · simp [results, Try.results44, go_sem, z0, z1]
                · exact draw_end (HS3.out.store (t := t) (k := 96008))
              · have n4 : (y == 4) = false := by simpa using y4
                go_wp2_with fail
                refine bodyPost_ret (v := .agg #[.string s, .int .i64 c]) ?_ rfl ⟨_, _, rfl, by omega, by omega, by omega, ?_⟩
                · simp [results, Try.results44, go_sem, z0, z1]
                · exact draw_end HS2.out

set_option maxHeartbeats 400000 in
theorem draw_fillByte (a : Option Addr) (len cap : Nat) (base : Nat) (w : World) (hK : CodeAt w base a len) (hlen : len ≤ 1048576) (hbase : base ≤ w.heap.size) :
    Calls Try.prog 15 #[.slice a len cap] w fun e w' => ∃ (s : ByteArray) (c : Int), e = .returned (.agg #[.string s, .int .i64 c]) ∧ s.size ≤ 12001 ∧ -9223372036854775808 ≤ c ∧ c ≤ 9223372036854775807 ∧ Below base w w' := by
  have HK : Hid (CodeAt w base a len) := hK
  clear hK
  go_enter Try.func15, Try.ntmps15
  go_wp2_with fail
  refine (draw_new a len cap base _ (HK.out.below ((Below.refl _ _).alloc hbase _)) hlen (by simp; omega)).mono ?_
  rintro e w1 ⟨rfl, hC1, o, rfl⟩
  have hsz1 : (w.alloc (.cells #[.string ⟨#[]⟩, .int .i64 0] 28)).heap.size = w.heap.size + 1 := by simp
  rw [hsz1] at hC1
  have HC1 : Hid (Cur ((w.alloc (.cells #[.string ⟨#[]⟩, .int .i64 0] 28)).alloc o) base (w.heap.size + 1)) := hC1
  clear hC1 hsz1
  go_wp2_with fail
  refine (draw_out base _ _ HC1.out).mono ?_
  rintro e w2 ⟨s, c, rfl, hs, hc1, hc2, hC2, hg2⟩
  have hR : OutBox ((w.alloc (.cells #[.string ⟨#[]⟩, .int .i64 0] 28)).alloc o) w.heap.size ⟨#[]⟩ 0 := by
    show ((w.heap.push _).push _)[w.heap.size]? = _
    rw [Array.getElem?_push, if_neg (by simp), Array.getElem?_push, if_pos rfl]
  have hR2 := hR.grown hg2 (by simp)
  have z0 := hR2.c0
  have z1 := hR2.c1
  have zf := hR2.f
  have hB : Below base w w2 := (((Below.refl _ _).alloc hbase _).alloc (by simp; omega) _).trans (below_of_grown hg2 (by omega) (by simp))
  clear hC2 hg2 hR hR2
  go_wp2_with fail
  refine bodyPost_ret (v := .agg #[.string s, .int .i64 c]) ?_ rfl ⟨_, _, rfl, hs, hc1, hc2, (hB.setCell hbase _).setCell hbase _⟩
  simp [results, Try.results15, go_sem, z0, z1]
end Go.Proofs.Ytdjpjdjljobalaa
