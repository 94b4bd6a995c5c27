/-
  The walk of the document's model where it draws a table, whatever it is.
-/
import Derived.Test.YtcnlcbkgbcnloaaRows
import Derived.Test.YtcnlcbkgbcnloaaHk01
import Derived.Test.YtcnlcbkgbcnloaaHk02
import Derived.Test.YtcnlcbkgbcnloaaHk03
import Derived.Test.YtcnlcbkgbcnloaaHk04
import Derived.Test.YtcnlcbkgbcnloaaHk30
import Derived.Test.YtcnlcbkgbcnloaaHk06
import Derived.Test.YtcnlcbkgbcnloaaHk14
import Derived.WalkKit
import Derived.ProofKit
import Derived.WalkLawsBesides
import Derived.Below
import Derived.OwnWalk
import Derived.Lib.SmallJoins
namespace Go.Proofs.Ytcnlcbkgbcnloaa
open Go.RowKit Go.Joins HeadMath

/-- What is drawn so far: the cursor, and the colors. -/
def RgbD (w0 w : World) (base b g n cap : Nat) (L : List Rgb3) : Prop := Cur w base b ∧ n = L.length ∧ w.ownsRow base 38 3 (.slice (some ⟨g, 0, none⟩) n cap) L.length (rgbTcells L) ∧ Below base w0 w
section
variable {w0 w w' : World} {base b g n cap : Nat} {L : List Rgb3}
theorem RgbD.block (h : RgbD w0 w base b g n cap L) : base ≤ g ∧ ∃ cur, w.heap[g]? = some (.cells cur 38 (0, 0)) := by
  rcases h.2.2.1.2 with ⟨e, _⟩ | ⟨g', cap', cur, hv, hb, hg, _⟩
  · cases e
  · cases hv
    exact ⟨hb, cur, hg⟩
theorem RgbD.ne (h : RgbD w0 w base b g n cap L) : g ≠ b := by
  obtain ⟨_, cur, hg⟩ := h.block
  intro e
  subst e
  obtain ⟨a, len, cap, i, h, hb, _⟩ := h.1
  rw [hb] at hg
  cases hg
theorem RgbD.lt (h : RgbD w0 w base b g n cap L) : g < w.heap.size := by
  obtain ⟨_, cur, hg⟩ := h.block
  exact block_lt hg
theorem rgbOwn_keep {v : Value} {k : Nat} (h : w.ownsRow base 38 3 v k (rgbTcells L)) (hk : ∀ q, v.ownBlock = some q → w'.heap[q]? = w.heap[q]?) : w'.ownsRow base 38 3 v k (rgbTcells L) := by
  refine ⟨h.1, ?_⟩
  rcases h.2 with q | ⟨g, cap, cur, rfl, h1, h2, h3⟩
  · exact .inl q
  · exact .inr ⟨g, cap, cur, rfl, h1, (hk g rfl).trans h2, h3⟩
theorem RgbD.drawn (h : RgbD w0 w base b g n cap L) (hg : w.grownBy w' (some b)) (hC : Cur w' base b) : RgbD w0 w' base b g n cap L := by
  have hne := h.ne
  have hlt := h.lt
  refine ⟨hC, h.2.1, rgbOwn_keep h.2.2.1 (fun q hq => ?_), h.2.2.2.trans (below_of_grown hg h.1.base_le h.1.lt)⟩
  cases hq
  exact hg.block g hlt (fun e => hne (Option.some.inj e))
theorem RgbD.called (h : RgbD w0 w base b g n cap L) (hb : Below w.heap.size w w') : RgbD w0 w' base b g n cap L := by
  refine ⟨h.1.keep (hb.block _ h.1.lt) (hb.mono (Nat.le_of_lt (Nat.lt_of_le_of_lt h.1.base_le h.1.lt))), h.2.1, rgbOwn_keep h.2.2.1 (fun q hq => ?_), h.2.2.2.trans (hb.mono (Nat.le_of_lt (Nat.lt_of_le_of_lt h.1.base_le h.1.lt)))⟩
  cases hq
  exact hb.block g h.lt
theorem RgbD.alloc (h : RgbD w0 w base b g n cap L) (o : Obj) : RgbD w0 (w.alloc o) base b g n cap L := h.called (bstart _ _)
theorem RgbD.start (hC : Cur w base b) (hB : Below base w0 w) : RgbD w0 (w.alloc (.cells #[] 38)) base b w.heap.size 0 0 [] := by
  have h1 := hC.lt
  have h2 := hC.base_le
  exact ⟨hC.alloc _, rfl, ⟨rfl, .inr ⟨w.heap.size, 0, #[], rfl, by omega, heap_alloc_new w _, Nat.le_refl _, Nat.zero_le _, rfl, rfl⟩⟩, hB.alloc (by omega) _⟩
/-- Behind the append. -/
theorem RgbD.app {v1 : Value} {o : Obj} {t : Rgb3} (h : RgbD w0 w base b g n cap L) (hown : w'.ownsRow base 38 3 v1 (L ++ [t]).length (rgbTcells (L ++ [t]))) (hg : (w.alloc o).grownBy w' (some g)) : ∃ g1 cap1, v1 = .slice (some ⟨g1, 0, none⟩) (n + 1) cap1 ∧ RgbD w0 w' base b g1 (n + 1) cap1 (L ++ [t]) := by
  have hl : (L ++ [t]).length = n + 1 := by rw [List.length_append, List.length_singleton, h.2.1]
  have hne := h.ne
  have hB : Below base w0 w' := by
    refine (h.alloc o).2.2.2.grown hg ?_ (fun q hq => ?_)
    · have := h.1.base_le
      have := h.1.lt
      simp; omega
    · cases hq
      exact h.block.1
  have hC : Cur w' base b := by
    refine (h.alloc o).1.grown hg (fun e => hne (Option.some.inj e)) (fun q hq => ?_)
    cases hq
    exact h.block.1
  have hown0 := hown
  rcases hown.2 with ⟨rfl, h0⟩ | ⟨g', cap', cur, rfl, q1, q2, q3⟩
  · omega
  · refine ⟨g', cap', by rw [hl], hC, hl.symm, ?_, hB⟩
    rw [hl] at hown0
    rw [hl]
    exact hown0
theorem RgbD.came (h : RgbD w0 w base b g n cap L) : RgbCame w (some ⟨g, 0, none⟩) n (fun j => L.getD j (0, 0, 0)) := by
  obtain ⟨a, c, hv, _, _, _, hC, _⟩ := rgbTcame_of_own h.2.2.1 rfl
  cases hv
  have e := h.2.1
  rw [← e] at hC
  exact hC
/-- The first color's second number is turned. -/
theorem RgbD.green (h : RgbD w0 w base b g n cap L) (hn : 1 ≤ n) (z : Int) : ∃ M, RgbD w0 (w.setCell ⟨g, 1, none⟩ (.int .i64 z)) base b g n cap M := by
  have hne := h.ne
  have hgb := h.block.1
  obtain ⟨h1, h2, h3, h4⟩ := h
  match L, h2, h3 with
  | [], h2, _ => simp at h2; omega
  | c :: R, h2, h3 =>
    refine ⟨(c.1, z, c.2.2) :: R, h1.setCell _ _ (by exact hne) (by exact hgb), h2, ⟨h3.1, ?_⟩, h4.setCell (p := ⟨g, 1, none⟩) hgb _⟩
    rcases h3.2 with ⟨e, _⟩ | ⟨g', cap', cur, hv, q1, q2, q3, q4, q5, q6⟩
    · cases e
    · cases hv
      refine .inr ⟨g, cap, cur.setIfInBounds 1 (.int .i64 z), by rw [h2]; rfl, q1, block_setCell (i := 1) q2 _, q3, q4, by simpa using q5, ?_⟩
      rw [Array.toList_setIfInBounds, List.take_set]
      show (cur.toList.take ((c :: R).length * 3)).set 1 _ = _
      rw [q6]
      rfl
theorem RgbD.first (h : RgbD w0 w base b g n cap L) (hn : 1 ≤ n) : (∃ u, w.cell? ⟨g, 1, none⟩ = some u) ∧ (∀ k, w.frozen? ⟨g, k, none⟩ = false) := by
  obtain ⟨_, cur, hg⟩ := h.block
  refine ⟨?_, fun k => by simp [World.frozen?, hg]⟩
  have h2 := h.2.1
  have hO := h.2.2.1
  rw [← h2] at hO
  have q := hO.cellAt 1 (by omega)
  rw [List.getElem?_eq_getElem (by rw [rgbTcells_length]; omega)] at q
  exact ⟨_, q⟩
end
def sliceLen' : Value → Nat
  | .slice _ n _ => n
  | _ => 0
/-- A table is drawn, whatever it is. -/
def TableDrawn (base : Nat) (w : World) (e : Ending) (w' : World) : Prop := ∃ (a : Option Addr) (n cap : Nat) (F : Nat → Rgb3), e = .returned (.slice a n cap) ∧ n ≤ 300 ∧ RgbCame w' a n F ∧ Below base w w'
theorem RgbD.ends {w0 w : World} {base b g n cap : Nat} {L : List Rgb3} (h : RgbD w0 w base b g n cap L) (hn : n ≤ 300) : TableDrawn base w0 (.returned (.slice (some ⟨g, 0, none⟩) n cap)) w := ⟨_, _, _, _, rfl, hn, h.came, h.2.2.2⟩
theorem news_col (w : World) (x y z : Int) (n : Nat) (h : w.heap.size = n) : ∀ q u, (rgbTcells [(x, y, z)])[q]? = some u → (w.alloc (.cells #[.int .i64 x, .int .i64 y, .int .i64 z] 38)).cell? ((⟨n, 0, none⟩ : Addr).add q) = some u := by
  subst h
  exact World.news_of_block (cs := #[.int .i64 x, .int .i64 y, .int .i64 z]) (t := 38) (fr := (0, 0)) (heap_alloc_new w _)
set_option maxRecDepth 100000 in
set_option maxHeartbeats 6400000 in
theorem draw_table17 (base b : Nat) (w : World) (hC : Cur w base b) : Calls Try.prog 42 #[.pointer (some ⟨b, 0, none⟩)] w (TableDrawn base w) := by
  have H0 : Hid (RgbD w (w.alloc (.cells #[] 38)) base b w.heap.size 0 0 []) := RgbD.start hC (Below.refl _ _)
  clear hC
  go_enter Try.func42, Try.ntmps42
  go_wp2_with fail
  go_loopw [3, 4] (fun v i w' => ∃ (j g cp : Nat) (L : List Rgb3), j ≤ 6 ∧ i = .int .i64 j ∧ v = .slice (some ⟨g, 0, none⟩) j cp ∧ Hid (RgbD w w' base b g j cp L)) (fun _ i _ => 6 - (intOf i).toNat)
  case atStart => exact ⟨0, w.heap.size, 0, [], by omega, rfl, rfl, H0⟩
  case round =>
    clear H0
    obtain ⟨j, g, cp, L, hj, rfl, rfl, hS⟩ := hrel
    go_wp2_with fail
    refine (draw_below base b 6 _ hS.out.1).mono ?_
    rintro e w1 ⟨y, rfl, iy, hC1, hg1⟩
    have hy : 0 ≤ y ∧ y < 6 := ⟨iy.1, iy.2.1 (by omega)⟩
    have HD1 := hid_of (hS.out.drawn hg1 hC1)
    clear hC1 hg1 hS iy
    by_cases hlt : (j : Int) < 1 + y
    · have dj : decide ((j : Int) < 1 + y) = true := decide_eq_true hlt
      go_wp2_with fail
      refine (draw_below base b 256 _ HD1.out.1).mono ?_
      rintro e w2 ⟨x1, rfl, -, hC2, hg2⟩
      have HD2 := hid_of (HD1.out.drawn hg2 hC2)
      clear hC2 hg2 HD1
      go_wp2_with fail
      refine (draw_below base b 256 _ HD2.out.1).mono ?_
      rintro e w3 ⟨x2, rfl, -, hC3, hg3⟩
      have HD3 := hid_of (HD2.out.drawn hg3 hC3)
      clear hC3 hg3 HD2
      go_wp2_with fail
      refine (draw_below base b 256 _ HD3.out.1).mono ?_
      rintro e w4 ⟨x3, rfl, -, hC4, hg4⟩
      have HD4 := hid_of (HD3.out.drawn hg4 hC4)
      clear hC4 hg4 HD3
      have HLJ := hid_of HD4.out.2.1
      have hds : base ≤ w4.heap.size := by
        have q1 := HD4.out.1.lt
        have q2 := HD4.out.1.base_le
        omega
      go_wp2_with (at_builtin; refine rgbs_append (S := base) (xs := L) (ys := [(x1, x2, x3)]) rfl _ _ rfl rfl (World.ownsRow.alloc HD4.out.2.2.1 _) ⟨w4.heap.size, 0, none⟩ 1 1 rfl rfl (news_col w4 x1 x2 x3 _ rfl) (by have := HLJ.out; simp only [List.length_cons, List.length_nil]; omega) (by simp; omega) ?_)
      intro v1 w5 y1 y2
      obtain ⟨g1, cap1, rfl, hD⟩ := HD4.out.app (t := (x1, x2, x3)) (by simpa using y1) y2
      have HN := hid_of hD
      clear y1 y2 hD HD4 HLJ hds
      go_wp2_with fail
      go_roundw
      case rel => exact ⟨j + 1, g1, cap1, _, by omega, by go_num, rfl, HN⟩
      case measure => simp [intOf]; omega
    · have dj : decide ((j : Int) < 1 + y) = false := decide_eq_false hlt
      have hj1 : 1 ≤ j := by omega
      clear hlt
      go_wp2_with fail
      refine (draw_below base b 30 _ HD1.out.1).mono ?_
      rintro e w2 ⟨k, rfl, -, hC2, hg2⟩
      have HD2 := hid_of (HD1.out.drawn hg2 hC2)
      clear hC2 hg2 HD1 hy dj
      by_cases h0 : k = 0
      · subst h0
        have HE : Hid (TableDrawn base w (.returned (.slice (some ⟨w2.heap.size, 0, none⟩) 0 0)) (w2.alloc (.cells #[] 38))) := ⟨_, 0, 0, (fun _ => (0, 0, 0)), rfl, by omega, .inl rfl, (HD2.out.alloc _).2.2.2⟩
        clear HD2
        go_wp2_with fail
        go_ret
        exact HE.out
      · have e0 : (k == 0) = false := by simp only [beq_eq_false_iff_ne, ne_eq]; exact h0
        clear h0
        by_cases h1 : k = 1
        · subst h1
          have HD3 := hid_of (HD2.out.alloc (.cells #[.int .i64 (-1), .int .i64 256] 3))
          have lc := HD2.out.1.lt
          clear HD2
          go_wp2_with fail
          refine (draw_pickInt base b w2.heap.size 2 2 (fun _ => True) _ HD3.out.1 (by omega) (by omega) (by simp) (fun j hj => ?_)).mono ?_
          · match j, hj with
            | 0, _ => exact ⟨-1, by simp, trivial⟩
            | 1, _ => exact ⟨256, by simp, trivial⟩
          rintro e w3 ⟨z, rfl, -, hC3, hg3⟩
          have HD4 := hid_of (HD3.out.drawn hg3 hC3)
          obtain ⟨⟨u, hu⟩, hf⟩ := HD4.out.first hj1
          have lg := HD4.out.lt
          obtain ⟨M, hM⟩ := HD4.out.green hj1 z
          have HE := hid_of (hM.ends (by omega))
          clear hC3 hg3 HD3 HD4 hM lc
          go_wp2_with fail
          go_ret
          exact HE.out
        · have e1 : (k == 1) = false := by simp only [beq_eq_false_iff_ne, ne_eq]; exact h1
          clear h1
          by_cases h2 : k = 2
          · subst h2
            go_wp2_with fail
            go_loopw [3] (fun v w' => ∃ (n g cp : Nat) (L : List Rgb3), n ≤ 257 ∧ v = .slice (some ⟨g, 0, none⟩) n cp ∧ Hid (RgbD w w' base b g n cp L)) (fun v _ => 300 - sliceLen' v)
            case atStart => exact ⟨j, g, cp, L, by omega, rfl, HD2⟩
            case round =>
              clear HD2 hj1 hj e0 e1
              obtain ⟨n, g, cp, L, hn, rfl, hS⟩ := hrel
              go_wp2_with fail
              refine (draw_below base b 2 _ hS.out.1).mono ?_
              rintro e w3 ⟨y, rfl, iy, hC3, hg3⟩
              have hy : 0 ≤ y ∧ y < 2 := ⟨iy.1, iy.2.1 (by omega)⟩
              have HD3 := hid_of (hS.out.drawn hg3 hC3)
              clear hC3 hg3 hS iy
              by_cases hlt : (n : Int) < 256 + y
              · have dn : decide ((n : Int) < 256 + y) = true := decide_eq_true hlt
                have HLJ := hid_of HD3.out.2.1
                have hds : base ≤ w3.heap.size := by
                  have q1 := HD3.out.1.lt
                  have q2 := HD3.out.1.base_le
                  omega
                go_wp2_with (at_builtin; refine rgbs_append (S := base) (xs := L) (ys := [(0, 0, 0)]) rfl _ _ rfl rfl (World.ownsRow.alloc HD3.out.2.2.1 _) ⟨w3.heap.size, 0, none⟩ 1 1 rfl rfl (news_col w3 0 0 0 _ rfl) (by have := HLJ.out; simp only [List.length_cons, List.length_nil]; omega) (by simp; omega) ?_)
                intro v1 w5 y1 y2
                obtain ⟨g1, cap1, rfl, hD⟩ := HD3.out.app (t := (0, 0, 0)) (by simpa using y1) y2
                have HN := hid_of hD
                clear y1 y2 hD HD3 HLJ hds
                go_wp2_with fail
                go_roundw
                case rel => exact ⟨n + 1, g1, cap1, _, by omega, rfl, HN⟩
                case measure => simp [sliceLen']; omega
              · have dn : decide ((n : Int) < 256 + y) = false := decide_eq_false hlt
                have HE := hid_of (HD3.out.ends (by omega))
                clear HD3 hlt
                go_wp2_with fail
                go_ret
                exact HE.out
          · have e2 : (k == 2) = false := by simp only [beq_eq_false_iff_ne, ne_eq]; exact h2
            have HE := hid_of (HD2.out.ends (by omega))
            clear HD2 h2
            go_wp2_with fail
            go_ret
            exact HE.out
end Go.Proofs.Ytcnlcbkgbcnloaa
