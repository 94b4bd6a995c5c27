/-
  The walk of the document's model where it draws what is clear. (Printed by tools/mkdrawclear.py.)
-/
import Derived.Test.YtcnlcbkgbcnloaaRows
import Derived.Test.YtcnlcbkgbcnloaaHk01
import Derived.Test.YtcnlcbkgbcnloaaHk02
import Derived.Test.YtcnlcbkgbcnloaaHk03
import Derived.Test.YtcnlcbkgbcnloaaHk04
import Derived.Test.YtcnlcbkgbcnloaaHk06
import Derived.Test.YtcnlcbkgbcnloaaHk11
import Derived.Test.YtcnlcbkgbcnloaaHk30
import Derived.Test.YtcnlcbkgbcnloaaHk34
import Derived.Test.YtcnlcbkgbcnloaaHk31
import Derived.WalkKit
import Derived.ProofKit
import Derived.WalkLawsBesides
import Derived.Below
import Derived.Lib.SmallJoins
namespace Go.Proofs.Ytcnlcbkgbcnloaa
open Go.RowKit Go.Joins OutMath

theorem drawDepth17 (x y d c : Int) (l : Bool) (w : World) :
    Calls Try.prog 69 #[.agg #[.int .i64 x, .int .i64 y, .int .i64 d, .int .i64 c, .bool l]] w fun e w' => (∃ D : Nat, e = .returned (.int .i64 (D : Int)) ∧ D ≤ 16) ∧ Below w.heap.size w w' := by
  have HB := hid_of (bstart w (.cells #[.int .i64 x, .int .i64 y, .int .i64 d, .int .i64 c, .bool l] 25))
  by_cases h : 0 ≤ d ∧ d ≤ 16
  · have hi := fun W => in_yes d 0 16 W h.1 h.2
    obtain ⟨D, rfl⟩ := Int.eq_ofNat_of_zero_le h.1
    have hD : D ≤ 16 := by omega
    clear h
    go_enter Try.func69, Try.ntmps69
    go_wp2_with fail
    refine (hi _).mono ?_
    rintro e w1 ⟨rfl, rfl⟩
    go_wp2_with fail
    go_ret
    exact ⟨⟨D, rfl, hD⟩, HB.out⟩
  · have hi := fun W => in_no d 0 16 W h
    clear h
    go_enter Try.func69, Try.ntmps69
    go_wp2_with fail
    refine (hi _).mono ?_
    rintro e w1 ⟨rfl, rfl⟩
    go_wp2_with fail
    go_ret
    exact ⟨⟨0, rfl, by omega⟩, HB.out⟩
/-- A list of numbers under way, and nothing else turned but the cursor. -/
def NumG (w0 w : World) (base b n : Nat) (v : Value) : Prop := NumZ w0 w base b n v ∧ w0.grownBy w (some b) ∧ ∀ q, v.ownBlock = some q → w0.heap.size ≤ q
/-- What is drawn: how many colors there are, and numbers. -/
def ClearDrawn (base b : Nat) (w : World) (e : Ending) (w' : World) : Prop := ∃ (table : Int) (g n cap : Nat) (f : Nat → Int), e = .returned (.tuple #[.int .i64 table, .slice (some ⟨g, 0, none⟩) n cap]) ∧ n ≤ 40 ∧ IOwn w' base g n cap f ∧ w.grownBy w' (some b)
section
variable {w0 w w' : World} {base b n g cap : Nat}
theorem NumG.cur {v : Value} (h : NumG w0 w base b n v) : Cur w base b := h.1.cur
theorem NumG.lt (h : NumG w0 w base b n (.slice (some ⟨g, 0, none⟩) n cap)) : g < w.heap.size ∧ g ≠ b := h.1.lt
theorem NumG.drawn {v : Value} (h : NumG w0 w base b n v) (hg : w.grownBy w' (some b)) (hC : Cur w' base b) : NumG w0 w' base b n v := ⟨h.1.drawn hg hC, grown_more h.2.1 hg (fun _ hr => .inl (Option.some.inj hr).symm), h.2.2⟩
theorem NumG.alloc {v : Value} (h : NumG w0 w base b n v) (o : Obj) : NumG w0 (w.alloc o) base b n v := ⟨h.1.alloc o, grown_alloc h.2.1 o, h.2.2⟩
theorem NumG.called {v : Value} (h : NumG w0 w base b n v) (hb : Below w.heap.size w w') : NumG w0 w' base b n v := by
  obtain ⟨⟨g', cap', zs, h1, h2, h4⟩, h5, h6⟩ := h
  exact ⟨⟨g', cap', zs, h1, h2, h4.called hb⟩, grown_more h5 (grown_of_below hb none) (fun _ hr => by cases hr), h6⟩
theorem NumG.start (hC : Cur w base b) (hB : Below base w0 w) (hG : w0.grownBy w (some b)) : NumG w0 (w.alloc (.cells #[] 3)) base b 0 (.slice (some ⟨w.heap.size, 0, none⟩) 0 0) :=
  ⟨NumZ.lit hC hB [] rfl (by omega), grown_alloc hG _, fun q hq => by cases hq; exact hG.size⟩
theorem NumG.clears (h : NumG w0 w base b n (.slice (some ⟨g, 0, none⟩) n cap)) (hn : n ≤ 40) (table : Int) : ClearDrawn base b w0 (.returned (.tuple #[.int .i64 table, .slice (some ⟨g, 0, none⟩) n cap])) w := by
  obtain ⟨f, hf⟩ := h.1.out
  exact ⟨table, g, n, cap, f, rfl, hn, hf, h.2.1⟩
theorem grown_setC {w w' : World} {row : Option Nat} (h : w.grownBy w' row) (p : Addr) (v : Value) (hp : w.heap.size ≤ p.block) : w.grownBy (w'.setCell p v) row :=
  ⟨h.os, h.tape, h.output, by simpa [World.setCell] using h.size, fun k hk hne => (heap_setCell_other w' p k v (by omega)).trans (h.block k hk hne)⟩
theorem NumG.put (h : NumG w0 w base b n (.slice (some ⟨g, 0, none⟩) n cap)) (hn : 1 ≤ n) (z : Int) : NumG w0 (w.setCell ⟨g, 0, none⟩ (.int .i64 z)) base b n (.slice (some ⟨g, 0, none⟩) n cap) := by
  obtain ⟨⟨g', cap', zs, e, h2, h3⟩, h5, h6⟩ := h
  cases e
  refine ⟨⟨g, cap, zs.set 0 z, rfl, by rw [List.length_set]; exact h2, ?_⟩, grown_setC h5 _ _ (h6 g rfl), h6⟩
  rw [← i64s_set]
  exact h3.set 0 (by rw [i64s_length]; omega) _
theorem NumG.head (h : NumG w0 w base b n (.slice (some ⟨g, 0, none⟩) n cap)) (hn : 1 ≤ n) : (∃ u, w.cell? ⟨g, 0, none⟩ = some u) ∧ w.frozen? ⟨g, 0, none⟩ = false := by
  obtain ⟨⟨g', cap', zs, e, h2, h3⟩, _⟩ := h
  cases e
  exact ⟨⟨_, h3.cell 0 (by rw [i64s_length]; omega)⟩, h3.free 0 (by rw [i64s_length]; omega)⟩
/-- 'append(v, x)'. -/
theorem numg_append {ops : Array Oper} {rest : List Oper} {o : Oper} {a : Act} {Q : Exit → Act → World → Prop} (hgd : o.guard = none) (s y : Operand)
    (hop : o.op = .call { callee := .builtin .append, args := #[s, y], argTypes := #[39, 39] }) (hs : a.eval s = .slice (some ⟨g, 0, none⟩) n cap) (hL : NumG w0 w base b n (.slice (some ⟨g, 0, none⟩) n cap)) (x : Int) (hy : a.eval y = .slice (some ⟨w.heap.size, 0, none⟩) 1 1) (hn : n ≤ 1000)
    (hK : ∀ g' cap' w', NumG w0 w' base b (n + 1) (.slice (some ⟨g', 0, none⟩) (n + 1) cap') → wpList Try.prog ops Q rest (a.put o.dst (.slice (some ⟨g', 0, none⟩) (n + 1) cap')) w') :
    wpList Try.prog ops Q (o :: rest) a (w.alloc (.cells #[.int .i64 x] 3)) := by
  obtain ⟨⟨g', cap', zs, e1, h2, h4⟩, h5, h6⟩ := hL
  cases e1
  obtain ⟨i0, hi0, hz0, hz1, hz2⟩ := info_parts info_numz
  have hO := h4.own
  rw [i64s_length, h2] at hO
  refine wpList_append1 hgd s y 39 hop i0 (.int .i64 0) 8 Try.underlying39 hi0 hz0 hz1 hz2 rfl hs (hO.alloc _) ⟨w.heap.size, 0, none⟩ 1 (.int .i64 x) hy (by simp) rfl rfl (by rw [i64s_length]; unfold maxLen; omega) (by rw [i64s_length]; omega) ?_
  intro g1 v1 w2 hO1 hg1 hgr
  have hg2 : g1 = g ∨ w.heap.size + 1 ≤ g1 := by simpa using hg1
  obtain ⟨c1, hv1, hD⟩ := h4.app hO1 hg2 hgr
  rw [i64s_app] at hD
  rw [i64s_length, h2] at hv1
  subst hv1
  refine hK g1 c1 w2 ⟨⟨g1, c1, zs ++ [x], rfl, by simp [h2], hD⟩, grown_more h5 (grown_alloc14 hgr) (fun q hq => by cases hq; exact .inr (h6 g rfl)), fun q hq => ?_⟩
  cases hq
  have := h5.size
  rcases hg2 with e | e
  · rw [e]; exact h6 g rfl
  · show w0.heap.size ≤ g1
    omega
end
set_option maxRecDepth 100000 in
set_option maxHeartbeats 12800000 in
theorem draw_clear_gray (base b : Nat) (x y d : Int) (l : Bool) (w : World) (hC : Cur w base b) : Calls Try.prog 46 #[.pointer (some ⟨b, 0, none⟩), .agg #[.int .i64 x, .int .i64 y, .int .i64 d, .int .i64 0, .bool l]] w (ClearDrawn base b w) := by
  have hbl := hC.lt
  have HC0 : Hid (Cur (w.alloc (.cells #[.int .i64 x, .int .i64 y, .int .i64 d, .int .i64 0, .bool l] 25)) base b) := hC.alloc _
  have HX0 : Hid ((w.alloc (.cells #[.int .i64 x, .int .i64 y, .int .i64 d, .int .i64 0, .bool l] 25)).heap[w.heap.size]? = some (.cells #[.int .i64 x, .int .i64 y, .int .i64 d, .int .i64 0, .bool l] 25 (0, 0))) := heap_alloc_new w _
  have HB0 : Hid (w.grownBy (w.alloc (.cells #[.int .i64 x, .int .i64 y, .int .i64 d, .int .i64 0, .bool l] 25)) (some b)) := grown_alloc (grown_refl _ _) _
  clear hC
  go_enter Try.func46, Try.ntmps46
  go_wp2_with fail
  generalize w.alloc (.cells #[.int .i64 x, .int .i64 y, .int .i64 d, .int .i64 0, .bool l] 25) = W0 at HC0 HX0 HB0 ⊢
  refine (draw_below base b 9 _ HC0.out).mono ?_
  rintro e w1 ⟨u, rfl, iu, hC1, hg1⟩
  have hu : 0 ≤ u ∧ u < 9 := ⟨iu.1, iu.2.1 (by omega)⟩
  have hbx : b ≠ w.heap.size := by omega
  have HX1 : Hid (w1.heap[w.heap.size]? = some (.cells #[.int .i64 x, .int .i64 y, .int .i64 d, .int .i64 0, .bool l] 25 (0, 0))) := (hg1.block _ (block_lt HX0.out) (fun e => hbx (Option.some.inj e).symm)).trans HX0.out
  have HD1 : Hid (NumG w (w1.alloc (.cells #[] 3)) base b 0 (.slice (some ⟨w1.heap.size, 0, none⟩) 0 0)) := NumG.start hC1 (below_of_grown (grown_more HB0.out hg1 (fun _ hr => .inl (Option.some.inj hr).symm)) HC0.out.base_le hbl) (grown_more HB0.out hg1 (fun _ hr => .inl (Option.some.inj hr).symm))
  have HX2 : Hid ((w1.alloc (.cells #[] 3)).heap[w.heap.size]? = some (.cells #[.int .i64 x, .int .i64 y, .int .i64 d, .int .i64 0, .bool l] 25 (0, 0))) := (Below.heap_alloc _ _ _ (block_lt HX1.out)).trans HX1.out
  obtain ⟨tb, htb⟩ : ∃ tb, tb = 1 + u := ⟨_, rfl⟩
  have htb1 : 1 ≤ tb ∧ tb ≤ 9 := by omega
  have ru := htb.symm
  obtain ⟨k0, k1, k2, k3, k4⟩ := head_cells HX1.out
  have lx := block_lt HX1.out
  clear hC1 hg1 iu HC0 HX0 HB0 HX1 hu htb
  go_wp2_with fail
  clear k0 k1 k2 k3 k4 lx
  generalize w1.alloc (.cells #[] 3) = W2 at HD1 HX2 ⊢
  generalize w1.heap.size = g0 at HD1 ⊢
  clear ru
  refine (drawDepth17 x y d 0 l W2).mono ?_
  rintro e w3 ⟨⟨Dp, rfl, hDp⟩, hB3⟩
  have HX3 := hid_of ((hB3.block _ (block_lt HX2.out)).trans HX2.out)
  have HD3 : Hid (NumG w w3 base b 0 (.slice (some ⟨g0, 0, none⟩) 0 0)) := HD1.out.called hB3
  clear hB3 HX2 HD1
  obtain ⟨k0, k1, k2, k3, k4⟩ := head_cells HX3.out
  have lx := block_lt HX3.out
  have hpw := fun W => pow_any Dp W (by omega)
  have hpp := p2_pos Dp
  have hp16 : p2 Dp ≤ 65536 := by
    have := p2_le hDp
    rw [show p2 16 = 65536 by decide +kernel] at this
    exact this
  generalize p2 Dp = P at hpw hpp hp16
  go_wp2_with fail
  refine (hpw _).mono ?_
  rintro e w4 ⟨rfl, rfl⟩
  have HD4 := HD3
  clear HD3 HX3
  go_wp2_with fail
  clear k0 k1 k2 k3 k4 lx
  go_loopw [7, 10] (fun v i w' => ∃ (j g cp : Nat), j ≤ 1 ∧ i = .int .i64 j ∧ v = .slice (some ⟨g, 0, none⟩) j cp ∧ Hid (NumG w w' base b j (.slice (some ⟨g, 0, none⟩) j cp))) (fun _ i _ => 20 - (intOf i).toNat)
  case atStart => exact ⟨0, g0, 0, by omega, rfl, rfl, HD4⟩
  case round =>
    clear HD4
    obtain ⟨j, g, cp, hj, rfl, rfl, hS⟩ := hrel
    by_cases hlt : j < 1
    · have dj : decide ((j : Int) < (1 : Int)) = true := decide_eq_true (by omega)
      have dj2 : decide (j < 1) = true := decide_eq_true hlt
      go_wp2_with fail
      refine (draw_once base b 12 _ hS.out.cur).mono ?_
      rintro e w6 ⟨bo, rfl, hC6, hg6⟩
      have HD6 := hid_of (hS.out.drawn hg6 hC6)
      clear hC6 hg6 hS
      cases bo
      · go_wp2_with fail
        refine (draw_below base b _ _ HD6.out.cur).mono ?_
        rintro e w7 ⟨z, rfl, -, hC7, hg7⟩
        have HD7 := hid_of (HD6.out.drawn hg7 hC7)
        clear hC7 hg7 HD6
        go_wp2_with (at_builtin; refine numg_append rfl _ _ rfl rfl HD7.out z rfl (by omega) ?_)
        intro g1 c1 w8 hL8
        have HN := hid_of hL8
        clear hL8 HD7
        go_wp2_with fail
        go_roundw
        case rel => exact ⟨j + 1, g1, c1, by omega, by go_num, rfl, HN⟩
        case measure => simp [intOf]; omega
      · clear dj dj2
        go_wp2_with fail
        refine (draw_below base b 20 _ HD6.out.cur).mono ?_
        rintro e w5 ⟨k, rfl, -, hC5, hg5⟩
        have HD5 := hid_of (HD6.out.drawn hg5 hC5)
        clear hC5 hg5 HD6
        by_cases q0 : k = 0
        · subst q0
          go_wp2_with (at_builtin; refine numg_append rfl _ _ rfl rfl HD5.out 0 rfl (by omega) ?_)
          intro g1 c1 w6 hL6
          have HE := hid_of (hL6.clears (by omega) tb)
          clear hL6 HD5
          go_wp2_with fail
          exact bodyPost_ret (v := .tuple #[.int .i64 tb, .slice (some ⟨g1, 0, none⟩) (j + 1) c1]) (by simp [results, Try.results46, go_sem]) rfl HE.out
        · have e0 : (k == 0) = false := by simp only [beq_eq_false_iff_ne, ne_eq]; exact q0
          clear q0
          by_cases q1 : k = 1
          · subst q1
            by_cases hn0 : j = 0
            · subst hn0
              have HE := hid_of (HD5.out.clears (by omega) tb)
              clear HD5
              go_wp2_with fail
              exact bodyPost_ret (v := .tuple #[.int .i64 tb, .slice (some ⟨g, 0, none⟩) 0 cp]) (by simp [results, Try.results46, go_sem]) rfl HE.out
            · first | (exfalso; omega) | skip
              all_goals
                have hj1 : 1 ≤ j := by omega
                have hj2 : 0 < j := by omega
                have dj : decide ((0 : Int) < (j : Int)) = true := decide_eq_true (by omega)
                have dj2 : decide (0 < j) = true := decide_eq_true hj2
                have HD6 := hid_of (HD5.out.alloc (.cells #[.int .i64 (-1), .int .i64 P] 3))
                have lc := HD5.out.cur.lt
                clear HD5
                go_wp2_with fail
                refine (draw_pickInt base b w5.heap.size 2 2 (fun _ => True) _ HD6.out.cur (by omega) (by omega) (by simp) (fun i hi => ?_)).mono ?_
                · match i, hi with
                  | 0, _ => exact ⟨-1, by simp, trivial⟩
                  | 1, _ => exact ⟨P, by simp, trivial⟩
                rintro e w7 ⟨z, rfl, -, hC7, hg7⟩
                have HD7 := hid_of (HD6.out.drawn hg7 hC7)
                obtain ⟨⟨u, hu⟩, hf⟩ := HD7.out.head hj1
                have lg := HD7.out.lt.1
                have HE := hid_of ((HD7.out.put hj1 z).clears (by omega) tb)
                clear hC7 hg7 HD6 HD7 lc
                go_wp2_with fail
                exact bodyPost_ret (v := .tuple #[.int .i64 tb, .slice (some ⟨g, 0, none⟩) j cp]) (by simp [results, Try.results46, go_sem]) rfl HE.out
          · have e1 : (k == 1) = false := by simp only [beq_eq_false_iff_ne, ne_eq]; exact q1
            clear q1
            by_cases q2 : k = 2
            · subst q2
              have HD6 := hid_of (HD5.out.alloc (.cells #[.int .i64 (-1), .int .i64 0, .int .i64 256] 3))
              have lc := HD5.out.cur.lt
              clear HD5
              go_wp2_with fail
              refine (draw_pickInt base b w5.heap.size 3 3 (fun _ => True) _ HD6.out.cur (by omega) (by omega) (by simp) (fun i hi => ?_)).mono ?_
              · match i, hi with
                | 0, _ => exact ⟨-1, by simp, trivial⟩
                | 1, _ => exact ⟨0, by simp, trivial⟩
                | 2, _ => exact ⟨256, by simp, trivial⟩
              rintro e w7 ⟨z, rfl, -, hC7, hg7⟩
              have HD7 := hid_of (HD6.out.drawn hg7 hC7)
              have HE := hid_of (HD7.out.clears (by omega) z)
              clear hC7 hg7 HD6 HD7 lc
              go_wp2_with fail
              exact bodyPost_ret (v := .tuple #[.int .i64 z, .slice (some ⟨g, 0, none⟩) j cp]) (by simp [results, Try.results46, go_sem]) rfl HE.out
            · have e2 : (k == 2) = false := by simp only [beq_eq_false_iff_ne, ne_eq]; exact q2
              have HE := hid_of (HD5.out.clears (by omega) tb)
              clear HD5 q2
              go_wp2_with fail
              exact bodyPost_ret (v := .tuple #[.int .i64 tb, .slice (some ⟨g, 0, none⟩) j cp]) (by simp [results, Try.results46, go_sem]) rfl HE.out
    · have dj : decide ((j : Int) < (1 : Int)) = false := decide_eq_false (by omega)
      have dj2 : decide (j < 1) = false := decide_eq_false hlt
      clear hlt
      go_wp2_with fail
      refine (draw_below base b 20 _ hS.out.cur).mono ?_
      rintro e w5 ⟨k, rfl, -, hC5, hg5⟩
      have HD5 := hid_of (hS.out.drawn hg5 hC5)
      clear hC5 hg5 hS
      by_cases q0 : k = 0
      · subst q0
        go_wp2_with (at_builtin; refine numg_append rfl _ _ rfl rfl HD5.out 0 rfl (by omega) ?_)
        intro g1 c1 w6 hL6
        have HE := hid_of (hL6.clears (by omega) tb)
        clear hL6 HD5
        go_wp2_with fail
        exact bodyPost_ret (v := .tuple #[.int .i64 tb, .slice (some ⟨g1, 0, none⟩) (j + 1) c1]) (by simp [results, Try.results46, go_sem]) rfl HE.out
      · have e0 : (k == 0) = false := by simp only [beq_eq_false_iff_ne, ne_eq]; exact q0
        clear q0
        by_cases q1 : k = 1
        · subst q1
          by_cases hn0 : j = 0
          · subst hn0
            have HE := hid_of (HD5.out.clears (by omega) tb)
            clear HD5
            go_wp2_with fail
            exact bodyPost_ret (v := .tuple #[.int .i64 tb, .slice (some ⟨g, 0, none⟩) 0 cp]) (by simp [results, Try.results46, go_sem]) rfl HE.out
          · first | (exfalso; omega) | skip
            all_goals
              have hj1 : 1 ≤ j := by omega
              have hj2 : 0 < j := by omega
              have dj : decide ((0 : Int) < (j : Int)) = true := decide_eq_true (by omega)
              have dj2 : decide (0 < j) = true := decide_eq_true hj2
              have HD6 := hid_of (HD5.out.alloc (.cells #[.int .i64 (-1), .int .i64 P] 3))
              have lc := HD5.out.cur.lt
              clear HD5
              go_wp2_with fail
              refine (draw_pickInt base b w5.heap.size 2 2 (fun _ => True) _ HD6.out.cur (by omega) (by omega) (by simp) (fun i hi => ?_)).mono ?_
              · match i, hi with
                | 0, _ => exact ⟨-1, by simp, trivial⟩
                | 1, _ => exact ⟨P, by simp, trivial⟩
              rintro e w7 ⟨z, rfl, -, hC7, hg7⟩
              have HD7 := hid_of (HD6.out.drawn hg7 hC7)
              obtain ⟨⟨u, hu⟩, hf⟩ := HD7.out.head hj1
              have lg := HD7.out.lt.1
              have HE := hid_of ((HD7.out.put hj1 z).clears (by omega) tb)
              clear hC7 hg7 HD6 HD7 lc
              go_wp2_with fail
              exact bodyPost_ret (v := .tuple #[.int .i64 tb, .slice (some ⟨g, 0, none⟩) j cp]) (by simp [results, Try.results46, go_sem]) rfl HE.out
        · have e1 : (k == 1) = false := by simp only [beq_eq_false_iff_ne, ne_eq]; exact q1
          clear q1
          by_cases q2 : k = 2
          · subst q2
            have HD6 := hid_of (HD5.out.alloc (.cells #[.int .i64 (-1), .int .i64 0, .int .i64 256] 3))
            have lc := HD5.out.cur.lt
            clear HD5
            go_wp2_with fail
            refine (draw_pickInt base b w5.heap.size 3 3 (fun _ => True) _ HD6.out.cur (by omega) (by omega) (by simp) (fun i hi => ?_)).mono ?_
            · match i, hi with
              | 0, _ => exact ⟨-1, by simp, trivial⟩
              | 1, _ => exact ⟨0, by simp, trivial⟩
              | 2, _ => exact ⟨256, by simp, trivial⟩
            rintro e w7 ⟨z, rfl, -, hC7, hg7⟩
            have HD7 := hid_of (HD6.out.drawn hg7 hC7)
            have HE := hid_of (HD7.out.clears (by omega) z)
            clear hC7 hg7 HD6 HD7 lc
            go_wp2_with fail
            exact bodyPost_ret (v := .tuple #[.int .i64 z, .slice (some ⟨g, 0, none⟩) j cp]) (by simp [results, Try.results46, go_sem]) rfl HE.out
          · have e2 : (k == 2) = false := by simp only [beq_eq_false_iff_ne, ne_eq]; exact q2
            have HE := hid_of (HD5.out.clears (by omega) tb)
            clear HD5 q2
            go_wp2_with fail
            exact bodyPost_ret (v := .tuple #[.int .i64 tb, .slice (some ⟨g, 0, none⟩) j cp]) (by simp [results, Try.results46, go_sem]) rfl HE.out
set_option maxRecDepth 100000 in
set_option maxHeartbeats 12800000 in
theorem draw_clear_full (base b : Nat) (x y d : Int) (l : Bool) (w : World) (hC : Cur w base b) : Calls Try.prog 46 #[.pointer (some ⟨b, 0, none⟩), .agg #[.int .i64 x, .int .i64 y, .int .i64 d, .int .i64 2, .bool l]] w (ClearDrawn base b w) := by
  have hbl := hC.lt
  have HC0 : Hid (Cur (w.alloc (.cells #[.int .i64 x, .int .i64 y, .int .i64 d, .int .i64 2, .bool l] 25)) base b) := hC.alloc _
  have HX0 : Hid ((w.alloc (.cells #[.int .i64 x, .int .i64 y, .int .i64 d, .int .i64 2, .bool l] 25)).heap[w.heap.size]? = some (.cells #[.int .i64 x, .int .i64 y, .int .i64 d, .int .i64 2, .bool l] 25 (0, 0))) := heap_alloc_new w _
  have HB0 : Hid (w.grownBy (w.alloc (.cells #[.int .i64 x, .int .i64 y, .int .i64 d, .int .i64 2, .bool l] 25)) (some b)) := grown_alloc (grown_refl _ _) _
  clear hC
  go_enter Try.func46, Try.ntmps46
  go_wp2_with fail
  generalize w.alloc (.cells #[.int .i64 x, .int .i64 y, .int .i64 d, .int .i64 2, .bool l] 25) = W0 at HC0 HX0 HB0 ⊢
  refine (draw_below base b 9 _ HC0.out).mono ?_
  rintro e w1 ⟨u, rfl, iu, hC1, hg1⟩
  have hu : 0 ≤ u ∧ u < 9 := ⟨iu.1, iu.2.1 (by omega)⟩
  have hbx : b ≠ w.heap.size := by omega
  have HX1 : Hid (w1.heap[w.heap.size]? = some (.cells #[.int .i64 x, .int .i64 y, .int .i64 d, .int .i64 2, .bool l] 25 (0, 0))) := (hg1.block _ (block_lt HX0.out) (fun e => hbx (Option.some.inj e).symm)).trans HX0.out
  have HD1 : Hid (NumG w (w1.alloc (.cells #[] 3)) base b 0 (.slice (some ⟨w1.heap.size, 0, none⟩) 0 0)) := NumG.start hC1 (below_of_grown (grown_more HB0.out hg1 (fun _ hr => .inl (Option.some.inj hr).symm)) HC0.out.base_le hbl) (grown_more HB0.out hg1 (fun _ hr => .inl (Option.some.inj hr).symm))
  have HX2 : Hid ((w1.alloc (.cells #[] 3)).heap[w.heap.size]? = some (.cells #[.int .i64 x, .int .i64 y, .int .i64 d, .int .i64 2, .bool l] 25 (0, 0))) := (Below.heap_alloc _ _ _ (block_lt HX1.out)).trans HX1.out
  obtain ⟨tb, htb⟩ : ∃ tb, tb = 1 + u := ⟨_, rfl⟩
  have htb1 : 1 ≤ tb ∧ tb ≤ 9 := by omega
  have ru := htb.symm
  obtain ⟨k0, k1, k2, k3, k4⟩ := head_cells HX1.out
  have lx := block_lt HX1.out
  clear hC1 hg1 iu HC0 HX0 HB0 HX1 hu htb
  go_wp2_with fail
  clear k0 k1 k2 k3 k4 lx
  generalize w1.alloc (.cells #[] 3) = W2 at HD1 HX2 ⊢
  generalize w1.heap.size = g0 at HD1 ⊢
  clear ru
  refine (drawDepth17 x y d 2 l W2).mono ?_
  rintro e w3 ⟨⟨Dp, rfl, hDp⟩, hB3⟩
  have HX3 := hid_of ((hB3.block _ (block_lt HX2.out)).trans HX2.out)
  have HD3 : Hid (NumG w w3 base b 0 (.slice (some ⟨g0, 0, none⟩) 0 0)) := HD1.out.called hB3
  clear hB3 HX2 HD1
  obtain ⟨k0, k1, k2, k3, k4⟩ := head_cells HX3.out
  have lx := block_lt HX3.out
  have hpw := fun W => pow_any Dp W (by omega)
  have hpp := p2_pos Dp
  have hp16 : p2 Dp ≤ 65536 := by
    have := p2_le hDp
    rw [show p2 16 = 65536 by decide +kernel] at this
    exact this
  generalize p2 Dp = P at hpw hpp hp16
  go_wp2_with fail
  refine (hpw _).mono ?_
  rintro e w4 ⟨rfl, rfl⟩
  have HD4 := HD3
  clear HD3 HX3
  go_wp2_with fail
  clear k0 k1 k2 k3 k4 lx
  go_loopw [7, 10] (fun v i w' => ∃ (j g cp : Nat), j ≤ 3 ∧ i = .int .i64 j ∧ v = .slice (some ⟨g, 0, none⟩) j cp ∧ Hid (NumG w w' base b j (.slice (some ⟨g, 0, none⟩) j cp))) (fun _ i _ => 20 - (intOf i).toNat)
  case atStart => exact ⟨0, g0, 0, by omega, rfl, rfl, HD4⟩
  case round =>
    clear HD4
    obtain ⟨j, g, cp, hj, rfl, rfl, hS⟩ := hrel
    by_cases hlt : j < 3
    · have dj : decide ((j : Int) < (3 : Int)) = true := decide_eq_true (by omega)
      have dj2 : decide (j < 3) = true := decide_eq_true hlt
      go_wp2_with fail
      refine (draw_once base b 12 _ hS.out.cur).mono ?_
      rintro e w6 ⟨bo, rfl, hC6, hg6⟩
      have HD6 := hid_of (hS.out.drawn hg6 hC6)
      clear hC6 hg6 hS
      cases bo
      · go_wp2_with fail
        refine (draw_below base b _ _ HD6.out.cur).mono ?_
        rintro e w7 ⟨z, rfl, -, hC7, hg7⟩
        have HD7 := hid_of (HD6.out.drawn hg7 hC7)
        clear hC7 hg7 HD6
        go_wp2_with (at_builtin; refine numg_append rfl _ _ rfl rfl HD7.out z rfl (by omega) ?_)
        intro g1 c1 w8 hL8
        have HN := hid_of hL8
        clear hL8 HD7
        go_wp2_with fail
        go_roundw
        case rel => exact ⟨j + 1, g1, c1, by omega, by go_num, rfl, HN⟩
        case measure => simp [intOf]; omega
      · clear dj dj2
        go_wp2_with fail
        refine (draw_below base b 20 _ HD6.out.cur).mono ?_
        rintro e w5 ⟨k, rfl, -, hC5, hg5⟩
        have HD5 := hid_of (HD6.out.drawn hg5 hC5)
        clear hC5 hg5 HD6
        by_cases q0 : k = 0
        · subst q0
          go_wp2_with (at_builtin; refine numg_append rfl _ _ rfl rfl HD5.out 0 rfl (by omega) ?_)
          intro g1 c1 w6 hL6
          have HE := hid_of (hL6.clears (by omega) tb)
          clear hL6 HD5
          go_wp2_with fail
          exact bodyPost_ret (v := .tuple #[.int .i64 tb, .slice (some ⟨g1, 0, none⟩) (j + 1) c1]) (by simp [results, Try.results46, go_sem]) rfl HE.out
        · have e0 : (k == 0) = false := by simp only [beq_eq_false_iff_ne, ne_eq]; exact q0
          clear q0
          by_cases q1 : k = 1
          · subst q1
            by_cases hn0 : j = 0
            · subst hn0
              have HE := hid_of (HD5.out.clears (by omega) tb)
              clear HD5
              go_wp2_with fail
              exact bodyPost_ret (v := .tuple #[.int .i64 tb, .slice (some ⟨g, 0, none⟩) 0 cp]) (by simp [results, Try.results46, go_sem]) rfl HE.out
            · first | (exfalso; omega) | skip
              all_goals
                have hj1 : 1 ≤ j := by omega
                have hj2 : 0 < j := by omega
                have dj : decide ((0 : Int) < (j : Int)) = true := decide_eq_true (by omega)
                have dj2 : decide (0 < j) = true := decide_eq_true hj2
                have HD6 := hid_of (HD5.out.alloc (.cells #[.int .i64 (-1), .int .i64 P] 3))
                have lc := HD5.out.cur.lt
                clear HD5
                go_wp2_with fail
                refine (draw_pickInt base b w5.heap.size 2 2 (fun _ => True) _ HD6.out.cur (by omega) (by omega) (by simp) (fun i hi => ?_)).mono ?_
                · match i, hi with
                  | 0, _ => exact ⟨-1, by simp, trivial⟩
                  | 1, _ => exact ⟨P, by simp, trivial⟩
                rintro e w7 ⟨z, rfl, -, hC7, hg7⟩
                have HD7 := hid_of (HD6.out.drawn hg7 hC7)
                obtain ⟨⟨u, hu⟩, hf⟩ := HD7.out.head hj1
                have lg := HD7.out.lt.1
                have HE := hid_of ((HD7.out.put hj1 z).clears (by omega) tb)
                clear hC7 hg7 HD6 HD7 lc
                go_wp2_with fail
                exact bodyPost_ret (v := .tuple #[.int .i64 tb, .slice (some ⟨g, 0, none⟩) j cp]) (by simp [results, Try.results46, go_sem]) rfl HE.out
          · have e1 : (k == 1) = false := by simp only [beq_eq_false_iff_ne, ne_eq]; exact q1
            clear q1
            by_cases q2 : k = 2
            · subst q2
              have HD6 := hid_of (HD5.out.alloc (.cells #[.int .i64 (-1), .int .i64 0, .int .i64 256] 3))
              have lc := HD5.out.cur.lt
              clear HD5
              go_wp2_with fail
              refine (draw_pickInt base b w5.heap.size 3 3 (fun _ => True) _ HD6.out.cur (by omega) (by omega) (by simp) (fun i hi => ?_)).mono ?_
              · match i, hi with
                | 0, _ => exact ⟨-1, by simp, trivial⟩
                | 1, _ => exact ⟨0, by simp, trivial⟩
                | 2, _ => exact ⟨256, by simp, trivial⟩
              rintro e w7 ⟨z, rfl, -, hC7, hg7⟩
              have HD7 := hid_of (HD6.out.drawn hg7 hC7)
              have HE := hid_of (HD7.out.clears (by omega) z)
              clear hC7 hg7 HD6 HD7 lc
              go_wp2_with fail
              exact bodyPost_ret (v := .tuple #[.int .i64 z, .slice (some ⟨g, 0, none⟩) j cp]) (by simp [results, Try.results46, go_sem]) rfl HE.out
            · have e2 : (k == 2) = false := by simp only [beq_eq_false_iff_ne, ne_eq]; exact q2
              have HE := hid_of (HD5.out.clears (by omega) tb)
              clear HD5 q2
              go_wp2_with fail
              exact bodyPost_ret (v := .tuple #[.int .i64 tb, .slice (some ⟨g, 0, none⟩) j cp]) (by simp [results, Try.results46, go_sem]) rfl HE.out
    · have dj : decide ((j : Int) < (3 : Int)) = false := decide_eq_false (by omega)
      have dj2 : decide (j < 3) = false := decide_eq_false hlt
      clear hlt
      go_wp2_with fail
      refine (draw_below base b 20 _ hS.out.cur).mono ?_
      rintro e w5 ⟨k, rfl, -, hC5, hg5⟩
      have HD5 := hid_of (hS.out.drawn hg5 hC5)
      clear hC5 hg5 hS
      by_cases q0 : k = 0
      · subst q0
        go_wp2_with (at_builtin; refine numg_append rfl _ _ rfl rfl HD5.out 0 rfl (by omega) ?_)
        intro g1 c1 w6 hL6
        have HE := hid_of (hL6.clears (by omega) tb)
        clear hL6 HD5
        go_wp2_with fail
        exact bodyPost_ret (v := .tuple #[.int .i64 tb, .slice (some ⟨g1, 0, none⟩) (j + 1) c1]) (by simp [results, Try.results46, go_sem]) rfl HE.out
      · have e0 : (k == 0) = false := by simp only [beq_eq_false_iff_ne, ne_eq]; exact q0
        clear q0
        by_cases q1 : k = 1
        · subst q1
          by_cases hn0 : j = 0
          · subst hn0
            have HE := hid_of (HD5.out.clears (by omega) tb)
            clear HD5
            go_wp2_with fail
            exact bodyPost_ret (v := .tuple #[.int .i64 tb, .slice (some ⟨g, 0, none⟩) 0 cp]) (by simp [results, Try.results46, go_sem]) rfl HE.out
          · first | (exfalso; omega) | skip
            all_goals
              have hj1 : 1 ≤ j := by omega
              have hj2 : 0 < j := by omega
              have dj : decide ((0 : Int) < (j : Int)) = true := decide_eq_true (by omega)
              have dj2 : decide (0 < j) = true := decide_eq_true hj2
              have HD6 := hid_of (HD5.out.alloc (.cells #[.int .i64 (-1), .int .i64 P] 3))
              have lc := HD5.out.cur.lt
              clear HD5
              go_wp2_with fail
              refine (draw_pickInt base b w5.heap.size 2 2 (fun _ => True) _ HD6.out.cur (by omega) (by omega) (by simp) (fun i hi => ?_)).mono ?_
              · match i, hi with
                | 0, _ => exact ⟨-1, by simp, trivial⟩
                | 1, _ => exact ⟨P, by simp, trivial⟩
              rintro e w7 ⟨z, rfl, -, hC7, hg7⟩
              have HD7 := hid_of (HD6.out.drawn hg7 hC7)
              obtain ⟨⟨u, hu⟩, hf⟩ := HD7.out.head hj1
              have lg := HD7.out.lt.1
              have HE := hid_of ((HD7.out.put hj1 z).clears (by omega) tb)
              clear hC7 hg7 HD6 HD7 lc
              go_wp2_with fail
              exact bodyPost_ret (v := .tuple #[.int .i64 tb, .slice (some ⟨g, 0, none⟩) j cp]) (by simp [results, Try.results46, go_sem]) rfl HE.out
        · have e1 : (k == 1) = false := by simp only [beq_eq_false_iff_ne, ne_eq]; exact q1
          clear q1
          by_cases q2 : k = 2
          · subst q2
            have HD6 := hid_of (HD5.out.alloc (.cells #[.int .i64 (-1), .int .i64 0, .int .i64 256] 3))
            have lc := HD5.out.cur.lt
            clear HD5
            go_wp2_with fail
            refine (draw_pickInt base b w5.heap.size 3 3 (fun _ => True) _ HD6.out.cur (by omega) (by omega) (by simp) (fun i hi => ?_)).mono ?_
            · match i, hi with
              | 0, _ => exact ⟨-1, by simp, trivial⟩
              | 1, _ => exact ⟨0, by simp, trivial⟩
              | 2, _ => exact ⟨256, by simp, trivial⟩
            rintro e w7 ⟨z, rfl, -, hC7, hg7⟩
            have HD7 := hid_of (HD6.out.drawn hg7 hC7)
            have HE := hid_of (HD7.out.clears (by omega) z)
            clear hC7 hg7 HD6 HD7 lc
            go_wp2_with fail
            exact bodyPost_ret (v := .tuple #[.int .i64 z, .slice (some ⟨g, 0, none⟩) j cp]) (by simp [results, Try.results46, go_sem]) rfl HE.out
          · have e2 : (k == 2) = false := by simp only [beq_eq_false_iff_ne, ne_eq]; exact q2
            have HE := hid_of (HD5.out.clears (by omega) tb)
            clear HD5 q2
            go_wp2_with fail
            exact bodyPost_ret (v := .tuple #[.int .i64 tb, .slice (some ⟨g, 0, none⟩) j cp]) (by simp [results, Try.results46, go_sem]) rfl HE.out
set_option maxRecDepth 100000 in
set_option maxHeartbeats 12800000 in
theorem draw_clear_table (base b : Nat) (x y d : Int) (l : Bool) (w : World) (hC : Cur w base b) : Calls Try.prog 46 #[.pointer (some ⟨b, 0, none⟩), .agg #[.int .i64 x, .int .i64 y, .int .i64 d, .int .i64 3, .bool l]] w (ClearDrawn base b w) := by
  have hbl := hC.lt
  have HC0 : Hid (Cur (w.alloc (.cells #[.int .i64 x, .int .i64 y, .int .i64 d, .int .i64 3, .bool l] 25)) base b) := hC.alloc _
  have HX0 : Hid ((w.alloc (.cells #[.int .i64 x, .int .i64 y, .int .i64 d, .int .i64 3, .bool l] 25)).heap[w.heap.size]? = some (.cells #[.int .i64 x, .int .i64 y, .int .i64 d, .int .i64 3, .bool l] 25 (0, 0))) := heap_alloc_new w _
  have HB0 : Hid (w.grownBy (w.alloc (.cells #[.int .i64 x, .int .i64 y, .int .i64 d, .int .i64 3, .bool l] 25)) (some b)) := grown_alloc (grown_refl _ _) _
  clear hC
  go_enter Try.func46, Try.ntmps46
  go_wp2_with fail
  generalize w.alloc (.cells #[.int .i64 x, .int .i64 y, .int .i64 d, .int .i64 3, .bool l] 25) = W0 at HC0 HX0 HB0 ⊢
  refine (draw_below base b 9 _ HC0.out).mono ?_
  rintro e w1 ⟨u, rfl, iu, hC1, hg1⟩
  have hu : 0 ≤ u ∧ u < 9 := ⟨iu.1, iu.2.1 (by omega)⟩
  have hbx : b ≠ w.heap.size := by omega
  have HX1 : Hid (w1.heap[w.heap.size]? = some (.cells #[.int .i64 x, .int .i64 y, .int .i64 d, .int .i64 3, .bool l] 25 (0, 0))) := (hg1.block _ (block_lt HX0.out) (fun e => hbx (Option.some.inj e).symm)).trans HX0.out
  have HD1 : Hid (NumG w (w1.alloc (.cells #[] 3)) base b 0 (.slice (some ⟨w1.heap.size, 0, none⟩) 0 0)) := NumG.start hC1 (below_of_grown (grown_more HB0.out hg1 (fun _ hr => .inl (Option.some.inj hr).symm)) HC0.out.base_le hbl) (grown_more HB0.out hg1 (fun _ hr => .inl (Option.some.inj hr).symm))
  have HX2 : Hid ((w1.alloc (.cells #[] 3)).heap[w.heap.size]? = some (.cells #[.int .i64 x, .int .i64 y, .int .i64 d, .int .i64 3, .bool l] 25 (0, 0))) := (Below.heap_alloc _ _ _ (block_lt HX1.out)).trans HX1.out
  obtain ⟨tb, htb⟩ : ∃ tb, tb = 1 + u := ⟨_, rfl⟩
  have htb1 : 1 ≤ tb ∧ tb ≤ 9 := by omega
  have ru := htb.symm
  obtain ⟨k0, k1, k2, k3, k4⟩ := head_cells HX1.out
  have lx := block_lt HX1.out
  clear hC1 hg1 iu HC0 HX0 HB0 HX1 hu htb
  go_wp2_with fail
  clear k0 k1 k2 k3 k4 lx
  generalize w1.alloc (.cells #[] 3) = W2 at HD1 HX2 ⊢
  generalize w1.heap.size = g0 at HD1 ⊢
  clear ru
  refine (drawDepth17 x y d 3 l W2).mono ?_
  rintro e w3 ⟨⟨Dp, rfl, hDp⟩, hB3⟩
  have HX3 := hid_of ((hB3.block _ (block_lt HX2.out)).trans HX2.out)
  have HD3 : Hid (NumG w w3 base b 0 (.slice (some ⟨g0, 0, none⟩) 0 0)) := HD1.out.called hB3
  clear hB3 HX2 HD1
  obtain ⟨k0, k1, k2, k3, k4⟩ := head_cells HX3.out
  have lx := block_lt HX3.out
  have hpw := fun W => pow_any Dp W (by omega)
  have hpp := p2_pos Dp
  have hp16 : p2 Dp ≤ 65536 := by
    have := p2_le hDp
    rw [show p2 16 = 65536 by decide +kernel] at this
    exact this
  generalize p2 Dp = P at hpw hpp hp16
  go_wp2_with fail
  refine (hpw _).mono ?_
  rintro e w4 ⟨rfl, rfl⟩
  go_wp2_with fail
  refine (draw_below base b (tb + 1) _ HD3.out.cur).mono ?_
  rintro e w5 ⟨n0, rfl, in0, hC5, hg5⟩
  obtain ⟨N, rfl⟩ := Int.eq_ofNat_of_zero_le in0.1
  have hN : N ≤ 9 := by have := in0.2.1 (by omega); omega
  have HD4 := hid_of (HD3.out.drawn hg5 hC5)
  clear hC5 hg5 in0 HD3 k0 k1 k2 k3 k4 lx HX3
  go_wp2_with fail
  go_loopw [7, 10] (fun v i w' => ∃ (j g cp : Nat), j ≤ N ∧ i = .int .i64 j ∧ v = .slice (some ⟨g, 0, none⟩) j cp ∧ Hid (NumG w w' base b j (.slice (some ⟨g, 0, none⟩) j cp))) (fun _ i _ => 20 - (intOf i).toNat)
  case atStart => exact ⟨0, g0, 0, by omega, rfl, rfl, HD4⟩
  case round =>
    clear HD4
    obtain ⟨j, g, cp, hj, rfl, rfl, hS⟩ := hrel
    by_cases hlt : j < N
    · have dj : decide ((j : Int) < (N : Int)) = true := decide_eq_true (by omega)
      have dj2 : decide (j < N) = true := decide_eq_true hlt
      go_wp2_with fail
      refine (draw_once base b 12 _ hS.out.cur).mono ?_
      rintro e w6 ⟨bo, rfl, hC6, hg6⟩
      have HD6 := hid_of (hS.out.drawn hg6 hC6)
      clear hC6 hg6 hS
      cases bo
      · go_wp2_with fail
        refine (draw_below base b _ _ HD6.out.cur).mono ?_
        rintro e w7 ⟨z, rfl, -, hC7, hg7⟩
        have HD7 := hid_of (HD6.out.drawn hg7 hC7)
        clear hC7 hg7 HD6
        go_wp2_with (at_builtin; refine numg_append rfl _ _ rfl rfl HD7.out z rfl (by omega) ?_)
        intro g1 c1 w8 hL8
        have HN := hid_of hL8
        clear hL8 HD7
        go_wp2_with fail
        go_roundw
        case rel => exact ⟨j + 1, g1, c1, by omega, by go_num, rfl, HN⟩
        case measure => simp [intOf]; omega
      · clear dj dj2
        go_wp2_with fail
        refine (draw_below base b 20 _ HD6.out.cur).mono ?_
        rintro e w5 ⟨k, rfl, -, hC5, hg5⟩
        have HD5 := hid_of (HD6.out.drawn hg5 hC5)
        clear hC5 hg5 HD6
        by_cases q0 : k = 0
        · subst q0
          go_wp2_with (at_builtin; refine numg_append rfl _ _ rfl rfl HD5.out 0 rfl (by omega) ?_)
          intro g1 c1 w6 hL6
          have HE := hid_of (hL6.clears (by omega) tb)
          clear hL6 HD5
          go_wp2_with fail
          exact bodyPost_ret (v := .tuple #[.int .i64 tb, .slice (some ⟨g1, 0, none⟩) (j + 1) c1]) (by simp [results, Try.results46, go_sem]) rfl HE.out
        · have e0 : (k == 0) = false := by simp only [beq_eq_false_iff_ne, ne_eq]; exact q0
          clear q0
          by_cases q1 : k = 1
          · subst q1
            by_cases hn0 : j = 0
            · subst hn0
              have HE := hid_of (HD5.out.clears (by omega) tb)
              clear HD5
              go_wp2_with fail
              exact bodyPost_ret (v := .tuple #[.int .i64 tb, .slice (some ⟨g, 0, none⟩) 0 cp]) (by simp [results, Try.results46, go_sem]) rfl HE.out
            · first | (exfalso; omega) | skip
              all_goals
                have hj1 : 1 ≤ j := by omega
                have hj2 : 0 < j := by omega
                have dj : decide ((0 : Int) < (j : Int)) = true := decide_eq_true (by omega)
                have dj2 : decide (0 < j) = true := decide_eq_true hj2
                have HD6 := hid_of (HD5.out.alloc (.cells #[.int .i64 (-1), .int .i64 256] 3))
                have lc := HD5.out.cur.lt
                clear HD5
                go_wp2_with fail
                refine (draw_pickInt base b w5.heap.size 2 2 (fun _ => True) _ HD6.out.cur (by omega) (by omega) (by simp) (fun i hi => ?_)).mono ?_
                · match i, hi with
                  | 0, _ => exact ⟨-1, by simp, trivial⟩
                  | 1, _ => exact ⟨256, by simp, trivial⟩
                rintro e w7 ⟨z, rfl, -, hC7, hg7⟩
                have HD7 := hid_of (HD6.out.drawn hg7 hC7)
                obtain ⟨⟨u, hu⟩, hf⟩ := HD7.out.head hj1
                have lg := HD7.out.lt.1
                have HE := hid_of ((HD7.out.put hj1 z).clears (by omega) tb)
                clear hC7 hg7 HD6 HD7 lc
                go_wp2_with fail
                exact bodyPost_ret (v := .tuple #[.int .i64 tb, .slice (some ⟨g, 0, none⟩) j cp]) (by simp [results, Try.results46, go_sem]) rfl HE.out
          · have e1 : (k == 1) = false := by simp only [beq_eq_false_iff_ne, ne_eq]; exact q1
            clear q1
            by_cases q2 : k = 2
            · subst q2
              have HD6 := hid_of (HD5.out.alloc (.cells #[.int .i64 (-1), .int .i64 0, .int .i64 256] 3))
              have lc := HD5.out.cur.lt
              clear HD5
              go_wp2_with fail
              refine (draw_pickInt base b w5.heap.size 3 3 (fun _ => True) _ HD6.out.cur (by omega) (by omega) (by simp) (fun i hi => ?_)).mono ?_
              · match i, hi with
                | 0, _ => exact ⟨-1, by simp, trivial⟩
                | 1, _ => exact ⟨0, by simp, trivial⟩
                | 2, _ => exact ⟨256, by simp, trivial⟩
              rintro e w7 ⟨z, rfl, -, hC7, hg7⟩
              have HD7 := hid_of (HD6.out.drawn hg7 hC7)
              have HE := hid_of (HD7.out.clears (by omega) z)
              clear hC7 hg7 HD6 HD7 lc
              go_wp2_with fail
              exact bodyPost_ret (v := .tuple #[.int .i64 z, .slice (some ⟨g, 0, none⟩) j cp]) (by simp [results, Try.results46, go_sem]) rfl HE.out
            · have e2 : (k == 2) = false := by simp only [beq_eq_false_iff_ne, ne_eq]; exact q2
              have HE := hid_of (HD5.out.clears (by omega) tb)
              clear HD5 q2
              go_wp2_with fail
              exact bodyPost_ret (v := .tuple #[.int .i64 tb, .slice (some ⟨g, 0, none⟩) j cp]) (by simp [results, Try.results46, go_sem]) rfl HE.out
    · have dj : decide ((j : Int) < (N : Int)) = false := decide_eq_false (by omega)
      have dj2 : decide (j < N) = false := decide_eq_false hlt
      clear hlt
      go_wp2_with fail
      refine (draw_below base b 20 _ hS.out.cur).mono ?_
      rintro e w5 ⟨k, rfl, -, hC5, hg5⟩
      have HD5 := hid_of (hS.out.drawn hg5 hC5)
      clear hC5 hg5 hS
      by_cases q0 : k = 0
      · subst q0
        go_wp2_with (at_builtin; refine numg_append rfl _ _ rfl rfl HD5.out 0 rfl (by omega) ?_)
        intro g1 c1 w6 hL6
        have HE := hid_of (hL6.clears (by omega) tb)
        clear hL6 HD5
        go_wp2_with fail
        exact bodyPost_ret (v := .tuple #[.int .i64 tb, .slice (some ⟨g1, 0, none⟩) (j + 1) c1]) (by simp [results, Try.results46, go_sem]) rfl HE.out
      · have e0 : (k == 0) = false := by simp only [beq_eq_false_iff_ne, ne_eq]; exact q0
        clear q0
        by_cases q1 : k = 1
        · subst q1
          by_cases hn0 : j = 0
          · subst hn0
            have HE := hid_of (HD5.out.clears (by omega) tb)
            clear HD5
            go_wp2_with fail
            exact bodyPost_ret (v := .tuple #[.int .i64 tb, .slice (some ⟨g, 0, none⟩) 0 cp]) (by simp [results, Try.results46, go_sem]) rfl HE.out
          · first | (exfalso; omega) | skip
            all_goals
              have hj1 : 1 ≤ j := by omega
              have hj2 : 0 < j := by omega
              have dj : decide ((0 : Int) < (j : Int)) = true := decide_eq_true (by omega)
              have dj2 : decide (0 < j) = true := decide_eq_true hj2
              have HD6 := hid_of (HD5.out.alloc (.cells #[.int .i64 (-1), .int .i64 256] 3))
              have lc := HD5.out.cur.lt
              clear HD5
              go_wp2_with fail
              refine (draw_pickInt base b w5.heap.size 2 2 (fun _ => True) _ HD6.out.cur (by omega) (by omega) (by simp) (fun i hi => ?_)).mono ?_
              · match i, hi with
                | 0, _ => exact ⟨-1, by simp, trivial⟩
                | 1, _ => exact ⟨256, by simp, trivial⟩
              rintro e w7 ⟨z, rfl, -, hC7, hg7⟩
              have HD7 := hid_of (HD6.out.drawn hg7 hC7)
              obtain ⟨⟨u, hu⟩, hf⟩ := HD7.out.head hj1
              have lg := HD7.out.lt.1
              have HE := hid_of ((HD7.out.put hj1 z).clears (by omega) tb)
              clear hC7 hg7 HD6 HD7 lc
              go_wp2_with fail
              exact bodyPost_ret (v := .tuple #[.int .i64 tb, .slice (some ⟨g, 0, none⟩) j cp]) (by simp [results, Try.results46, go_sem]) rfl HE.out
        · have e1 : (k == 1) = false := by simp only [beq_eq_false_iff_ne, ne_eq]; exact q1
          clear q1
          by_cases q2 : k = 2
          · subst q2
            have HD6 := hid_of (HD5.out.alloc (.cells #[.int .i64 (-1), .int .i64 0, .int .i64 256] 3))
            have lc := HD5.out.cur.lt
            clear HD5
            go_wp2_with fail
            refine (draw_pickInt base b w5.heap.size 3 3 (fun _ => True) _ HD6.out.cur (by omega) (by omega) (by simp) (fun i hi => ?_)).mono ?_
            · match i, hi with
              | 0, _ => exact ⟨-1, by simp, trivial⟩
              | 1, _ => exact ⟨0, by simp, trivial⟩
              | 2, _ => exact ⟨256, by simp, trivial⟩
            rintro e w7 ⟨z, rfl, -, hC7, hg7⟩
            have HD7 := hid_of (HD6.out.drawn hg7 hC7)
            have HE := hid_of (HD7.out.clears (by omega) z)
            clear hC7 hg7 HD6 HD7 lc
            go_wp2_with fail
            exact bodyPost_ret (v := .tuple #[.int .i64 z, .slice (some ⟨g, 0, none⟩) j cp]) (by simp [results, Try.results46, go_sem]) rfl HE.out
          · have e2 : (k == 2) = false := by simp only [beq_eq_false_iff_ne, ne_eq]; exact q2
            have HE := hid_of (HD5.out.clears (by omega) tb)
            clear HD5 q2
            go_wp2_with fail
            exact bodyPost_ret (v := .tuple #[.int .i64 tb, .slice (some ⟨g, 0, none⟩) j cp]) (by simp [results, Try.results46, go_sem]) rfl HE.out
set_option maxRecDepth 100000 in
set_option maxHeartbeats 12800000 in
theorem draw_clear_other (base b : Nat) (x y d c : Int) (l : Bool) (w : World) (hC : Cur w base b) (n0 : ¬ c = 0) (n2 : ¬ c = 2) (n3 : ¬ c = 3) : Calls Try.prog 46 #[.pointer (some ⟨b, 0, none⟩), .agg #[.int .i64 x, .int .i64 y, .int .i64 d, .int .i64 c, .bool l]] w (ClearDrawn base b w) := by
  have hbl := hC.lt
  have HC0 : Hid (Cur (w.alloc (.cells #[.int .i64 x, .int .i64 y, .int .i64 d, .int .i64 c, .bool l] 25)) base b) := hC.alloc _
  have HX0 : Hid ((w.alloc (.cells #[.int .i64 x, .int .i64 y, .int .i64 d, .int .i64 c, .bool l] 25)).heap[w.heap.size]? = some (.cells #[.int .i64 x, .int .i64 y, .int .i64 d, .int .i64 c, .bool l] 25 (0, 0))) := heap_alloc_new w _
  have HB0 : Hid (w.grownBy (w.alloc (.cells #[.int .i64 x, .int .i64 y, .int .i64 d, .int .i64 c, .bool l] 25)) (some b)) := grown_alloc (grown_refl _ _) _
  have c0 : (c == 0) = false := by simp only [beq_eq_false_iff_ne, ne_eq]; exact n0
  have c2 : (c == 2) = false := by simp only [beq_eq_false_iff_ne, ne_eq]; exact n2
  have c3 : (c == 3) = false := by simp only [beq_eq_false_iff_ne, ne_eq]; exact n3
  clear n0 n2 n3
  clear hC
  go_enter Try.func46, Try.ntmps46
  go_wp2_with fail
  generalize w.alloc (.cells #[.int .i64 x, .int .i64 y, .int .i64 d, .int .i64 c, .bool l] 25) = W0 at HC0 HX0 HB0 ⊢
  refine (draw_below base b 9 _ HC0.out).mono ?_
  rintro e w1 ⟨u, rfl, iu, hC1, hg1⟩
  have hu : 0 ≤ u ∧ u < 9 := ⟨iu.1, iu.2.1 (by omega)⟩
  have hbx : b ≠ w.heap.size := by omega
  have HX1 : Hid (w1.heap[w.heap.size]? = some (.cells #[.int .i64 x, .int .i64 y, .int .i64 d, .int .i64 c, .bool l] 25 (0, 0))) := (hg1.block _ (block_lt HX0.out) (fun e => hbx (Option.some.inj e).symm)).trans HX0.out
  have HD1 : Hid (NumG w (w1.alloc (.cells #[] 3)) base b 0 (.slice (some ⟨w1.heap.size, 0, none⟩) 0 0)) := NumG.start hC1 (below_of_grown (grown_more HB0.out hg1 (fun _ hr => .inl (Option.some.inj hr).symm)) HC0.out.base_le hbl) (grown_more HB0.out hg1 (fun _ hr => .inl (Option.some.inj hr).symm))
  have HX2 : Hid ((w1.alloc (.cells #[] 3)).heap[w.heap.size]? = some (.cells #[.int .i64 x, .int .i64 y, .int .i64 d, .int .i64 c, .bool l] 25 (0, 0))) := (Below.heap_alloc _ _ _ (block_lt HX1.out)).trans HX1.out
  obtain ⟨tb, htb⟩ : ∃ tb, tb = 1 + u := ⟨_, rfl⟩
  have htb1 : 1 ≤ tb ∧ tb ≤ 9 := by omega
  have ru := htb.symm
  obtain ⟨k0, k1, k2, k3, k4⟩ := head_cells HX1.out
  have lx := block_lt HX1.out
  clear hC1 hg1 iu HC0 HX0 HB0 HX1 hu htb
  go_wp2_with fail
  clear k0 k1 k2 k3 k4 lx
  generalize w1.alloc (.cells #[] 3) = W2 at HD1 HX2 ⊢
  generalize w1.heap.size = g0 at HD1 ⊢
  clear ru
  refine (drawDepth17 x y d c l W2).mono ?_
  rintro e w3 ⟨⟨Dp, rfl, hDp⟩, hB3⟩
  have HX3 := hid_of ((hB3.block _ (block_lt HX2.out)).trans HX2.out)
  have HD3 : Hid (NumG w w3 base b 0 (.slice (some ⟨g0, 0, none⟩) 0 0)) := HD1.out.called hB3
  clear hB3 HX2 HD1
  obtain ⟨k0, k1, k2, k3, k4⟩ := head_cells HX3.out
  have lx := block_lt HX3.out
  have hpw := fun W => pow_any Dp W (by omega)
  have hpp := p2_pos Dp
  have hp16 : p2 Dp ≤ 65536 := by
    have := p2_le hDp
    rw [show p2 16 = 65536 by decide +kernel] at this
    exact this
  generalize p2 Dp = P at hpw hpp hp16
  go_wp2_with fail
  refine (hpw _).mono ?_
  rintro e w4 ⟨rfl, rfl⟩
  have HD4 := HD3
  clear HD3 HX3
  go_wp2_with fail
  clear k0 k1 k2 k3 k4 lx
  go_loopw [7, 10] (fun v i w' => ∃ (j g cp : Nat), j ≤ 0 ∧ i = .int .i64 j ∧ v = .slice (some ⟨g, 0, none⟩) j cp ∧ Hid (NumG w w' base b j (.slice (some ⟨g, 0, none⟩) j cp))) (fun _ i _ => 20 - (intOf i).toNat)
  case atStart => exact ⟨0, g0, 0, by omega, rfl, rfl, HD4⟩
  case round =>
    clear HD4
    obtain ⟨j, g, cp, hj, rfl, rfl, hS⟩ := hrel
    by_cases hlt : j < 0
    · omega
    · have dj : decide ((j : Int) < (0 : Int)) = false := decide_eq_false (by omega)
      have dj2 : decide (j < 0) = false := decide_eq_false hlt
      clear hlt
      go_wp2_with fail
      refine (draw_below base b 20 _ hS.out.cur).mono ?_
      rintro e w5 ⟨k, rfl, -, hC5, hg5⟩
      have HD5 := hid_of (hS.out.drawn hg5 hC5)
      clear hC5 hg5 hS
      by_cases q0 : k = 0
      · subst q0
        go_wp2_with (at_builtin; refine numg_append rfl _ _ rfl rfl HD5.out 0 rfl (by omega) ?_)
        intro g1 c1 w6 hL6
        have HE := hid_of (hL6.clears (by omega) tb)
        clear hL6 HD5
        go_wp2_with fail
        exact bodyPost_ret (v := .tuple #[.int .i64 tb, .slice (some ⟨g1, 0, none⟩) (j + 1) c1]) (by simp [results, Try.results46, go_sem]) rfl HE.out
      · have e0 : (k == 0) = false := by simp only [beq_eq_false_iff_ne, ne_eq]; exact q0
        clear q0
        by_cases q1 : k = 1
        · subst q1
          by_cases hn0 : j = 0
          · subst hn0
            have HE := hid_of (HD5.out.clears (by omega) tb)
            clear HD5
            go_wp2_with fail
            exact bodyPost_ret (v := .tuple #[.int .i64 tb, .slice (some ⟨g, 0, none⟩) 0 cp]) (by simp [results, Try.results46, go_sem]) rfl HE.out
          · first | (exfalso; omega) | skip
            all_goals
              have hj1 : 1 ≤ j := by omega
              have hj2 : 0 < j := by omega
              have dj : decide ((0 : Int) < (j : Int)) = true := decide_eq_true (by omega)
              have dj2 : decide (0 < j) = true := decide_eq_true hj2
              have HD6 := hid_of (HD5.out.alloc (.cells #[.int .i64 (-1), .int .i64 P] 3))
              have lc := HD5.out.cur.lt
              clear HD5
              go_wp2_with fail
              refine (draw_pickInt base b w5.heap.size 2 2 (fun _ => True) _ HD6.out.cur (by omega) (by omega) (by simp) (fun i hi => ?_)).mono ?_
              · match i, hi with
                | 0, _ => exact ⟨-1, by simp, trivial⟩
                | 1, _ => exact ⟨P, by simp, trivial⟩
              rintro e w7 ⟨z, rfl, -, hC7, hg7⟩
              have HD7 := hid_of (HD6.out.drawn hg7 hC7)
              obtain ⟨⟨u, hu⟩, hf⟩ := HD7.out.head hj1
              have lg := HD7.out.lt.1
              have HE := hid_of ((HD7.out.put hj1 z).clears (by omega) tb)
              clear hC7 hg7 HD6 HD7 lc
              go_wp2_with fail
              exact bodyPost_ret (v := .tuple #[.int .i64 tb, .slice (some ⟨g, 0, none⟩) j cp]) (by simp [results, Try.results46, go_sem]) rfl HE.out
        · have e1 : (k == 1) = false := by simp only [beq_eq_false_iff_ne, ne_eq]; exact q1
          clear q1
          by_cases q2 : k = 2
          · subst q2
            have HD6 := hid_of (HD5.out.alloc (.cells #[.int .i64 (-1), .int .i64 0, .int .i64 256] 3))
            have lc := HD5.out.cur.lt
            clear HD5
            go_wp2_with fail
            refine (draw_pickInt base b w5.heap.size 3 3 (fun _ => True) _ HD6.out.cur (by omega) (by omega) (by simp) (fun i hi => ?_)).mono ?_
            · match i, hi with
              | 0, _ => exact ⟨-1, by simp, trivial⟩
              | 1, _ => exact ⟨0, by simp, trivial⟩
              | 2, _ => exact ⟨256, by simp, trivial⟩
            rintro e w7 ⟨z, rfl, -, hC7, hg7⟩
            have HD7 := hid_of (HD6.out.drawn hg7 hC7)
            have HE := hid_of (HD7.out.clears (by omega) z)
            clear hC7 hg7 HD6 HD7 lc
            go_wp2_with fail
            exact bodyPost_ret (v := .tuple #[.int .i64 z, .slice (some ⟨g, 0, none⟩) j cp]) (by simp [results, Try.results46, go_sem]) rfl HE.out
          · have e2 : (k == 2) = false := by simp only [beq_eq_false_iff_ne, ne_eq]; exact q2
            have HE := hid_of (HD5.out.clears (by omega) tb)
            clear HD5 q2
            go_wp2_with fail
            exact bodyPost_ret (v := .tuple #[.int .i64 tb, .slice (some ⟨g, 0, none⟩) j cp]) (by simp [results, Try.results46, go_sem]) rfl HE.out
theorem draw_clear17 (base b : Nat) (x y d c : Int) (l : Bool) (w : World) (hC : Cur w base b) : Calls Try.prog 46 #[.pointer (some ⟨b, 0, none⟩), .agg #[.int .i64 x, .int .i64 y, .int .i64 d, .int .i64 c, .bool l]] w (ClearDrawn base b w) := by
  by_cases h0 : c = 0
  · subst h0
    exact draw_clear_gray base b x y d l w hC
  by_cases h2 : c = 2
  · subst h2
    exact draw_clear_full base b x y d l w hC
  by_cases h3 : c = 3
  · subst h3
    exact draw_clear_table base b x y d l w hC
  · exact draw_clear_other base b x y d c l w hC h0 h2 h3
end Go.Proofs.Ytcnlcbkgbcnloaa
