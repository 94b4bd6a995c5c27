/-
  The walk of the law FnExactTakeSymbol, over what both functions answer.
-/
import Derived.Test.YtbfjgkoohdknnabRows
import Derived.Test.YtbfjgkoohdknnabBase
import Derived.Test.YtbfjgkoohdknnabOwnLib
import Derived.Test.YtbfjgkoohdknnabRowLib
import Derived.Test.YtbfjgkoohdknnabIntsLib
import Derived.Test.YtbfjgkoohdknnabIntsWalks
import Derived.Test.YtbfjgkoohdknnabBitsHelp
import Derived.Test.YtbfjgkoohdknnabCodeMath
import Derived.Test.YtbfjgkoohdknnabSymSpec
import Derived.Test.YtbfjgkoohdknnabSymTakeSpec
import Derived.Test.YtbfjgkoohdknnabSymAns
import Derived.WalkKit
import Derived.ProofKit
import Derived.OpenShut
import Derived.Below
import Derived.Deep.RegionHeld3
import Derived.Deep.RegionWith
import Derived.Deep.CutRange
import Derived.Lib.SmallJoins
namespace Go.Proofs.Ytbfjgkoohdknnab
open Go.RowKit Go.Joins CodeMath

set_option maxHeartbeats 4000000 in
theorem FnExactTakeSymbol_at (a1 : Option Addr) (n c1 : Nat) (f : Nat → Int) (s t : ByteArray) (a x k : Int) (b : Bool) (w : World) (h1 : Came w a1 n f) (hn : (n : Int) ≤ 1048576) (hs : (s.size : Int) ≤ 1048576)
    (hx : ∀ (a1 : Option Addr) (c1 : Nat) (w : World), Came w a1 n f → Calls Try.prog 18 #[.slice a1 n c1, .agg #[.string s, .int .i64 a]] w fun e w' => e = .returned (.tuple #[.int .i64 x, .agg #[.string t, .int .i64 k], .bool b]) ∧ Below w.heap.size w w')
    (hy : ∀ (a1 : Option Addr) (c1 : Nat) (w : World), Came w a1 n f → Calls Try.prog 20 #[.slice a1 n c1, .agg #[.string s, .int .i64 a]] w fun e w' => e = .returned (.tuple #[.int .i64 x, .agg #[.string t, .int .i64 k], .bool b]) ∧ Below w.heap.size w w') :
    Calls Try.prog 6 #[.slice a1 n c1, .agg #[.string s, .int .i64 a]] w fun e w' => e = .returned (.bool true) ∧ Below w.heap.size w w' := by
  have Hx : Hid (∀ (a1 : Option Addr) (c1 : Nat) (w : World), Came w a1 n f → Calls Try.prog 18 #[.slice a1 n c1, .agg #[.string s, .int .i64 a]] w fun e w' => e = .returned (.tuple #[.int .i64 x, .agg #[.string t, .int .i64 k], .bool b]) ∧ Below w.heap.size w w') := hx
  have Hy : Hid (∀ (a1 : Option Addr) (c1 : Nat) (w : World), Came w a1 n f → Calls Try.prog 20 #[.slice a1 n c1, .agg #[.string s, .int .i64 a]] w fun e w' => e = .returned (.tuple #[.int .i64 x, .agg #[.string t, .int .i64 k], .bool b]) ∧ Below w.heap.size w w') := hy
  have HC : Hid (Came w a1 n f) := h1
  have hbb : (b != b) = false := bne_self_eq_false b
  clear hx hy h1
  have d : ¬ (1048576 : Int) - (s.size : Int) < 0 := by omega
  go_enter Try.func6, Try.ntmps6
  go_wp2_with fail
  refine (szBits_ok s a _ _ (by omega) (by omega) (by omega)).mono ?_
  rintro e w1 ⟨rfl, hb1⟩
  obtain ⟨k1, f1⟩ := bcell hb1
  have z1 : w.heap.size < w1.heap.size := by have := hb1.size; simp at this; omega
  have HB1 : Hid (Below w.heap.size w w1) := bnext (bstart _ _) hb1
  have x0 : w1.cell? ⟨w.heap.size, 0, none⟩ = some (.string s) := by rw [k1 _ _ (by simp)]; simp
  have x1 : w1.cell? ⟨w.heap.size, 1, none⟩ = some (.int .i64 a) := by rw [k1 _ _ (by simp)]; simp
  have HC1 : Hid (Came w1.drew a1 n f) := HC.out.called HB1.out.drew
  clear k1 f1 hb1
  go_wp2_with fail
  go_cut [6, 7, 8] from 21 to 29 (fun u p ok wx => u = .int .i64 x ∧ ok = .bool b ∧ ∃ β, p = .pointer (some ⟨β, 0, none⟩) ∧ w1.heap.size ≤ β ∧ Hid (wx.heap[β]? = some (.cells #[.string t, .int .i64 k] 36 (0, 0))) ∧ Hid (Below w1.heap.size w1 wx))
  case first =>
    have n0 := World.new_ne w1 ⟨w.heap.size, 0, none⟩ x0
    have n1 := World.new_ne w1 ⟨w.heap.size, 1, none⟩ x1
    go_region_held3 (fun w' => w'.cell? ⟨w.heap.size, 0, none⟩ = some (.string s) ∧ w'.cell? ⟨w.heap.size, 1, none⟩ = some (.int .i64 a)) (go_keep) (first | (go_at_call 10; guard_target = Calls Try.prog 10 _ (World.drew (World.alloc _ _)) _; refine (toIntS_any a1 n c1 f (w1.alloc _).drew (HC.out.called (bnext HB1.out (bstart w1 _)).drew) (by omega)).mono ?_; rintro e w2 ⟨rfl, hO2, hb2⟩; have hsz : (w1.alloc (.cells #[.string ⟨#[]⟩, .int .i64 0] 36)).drew.heap.size = w1.heap.size + 1 := (by simp); rw [hsz] at hO2; have z2 : w.heap.size < w2.heap.size := Nat.lt_of_lt_of_le (grow_lt _ z1) hb2.size; have y20 : w2.cell? ⟨w.heap.size, 0, none⟩ = some (.string s) := (hb2.cell (p := ⟨w.heap.size, 0, none⟩) (grow_lt _ z1)).trans ((grow_cell _ z1 0).trans x0); have y21 : w2.cell? ⟨w.heap.size, 1, none⟩ = some (.int .i64 a) := (hb2.cell (p := ⟨w.heap.size, 1, none⟩) (grow_lt _ z1)).trans ((grow_cell _ z1 1).trans x1); have vb2 : w2.heap[w1.heap.size]? = some (.cells #[.string ⟨#[]⟩, .int .i64 0] 36 (0, 0)) := (hb2.block _ (by simp)).trans (heap_alloc_new w1 _); have vl2 : w1.heap.size < w2.heap.size := Nat.lt_of_lt_of_le (by simp) hb2.size; have ne2 : w.heap.size ≠ w1.heap.size := Nat.ne_of_lt z1; have nf2 : w1.heap.size ≠ w.heap.size := Nat.ne_of_gt z1; have gb2 : Below w1.heap.size w1 w2 := ((Below.refl w1.heap.size w1).alloc (Nat.le_refl _) _).drew.trans (hb2.mono (by simp)); skip) | (go_at_call 10; refine (toIntS_any a1 n c1 f w1.drew HC1.out (by omega)).mono ?_; rintro e w2 ⟨rfl, hO2, hb2⟩; have z2 : w.heap.size < w2.heap.size := Nat.lt_of_lt_of_le z1 hb2.size; have y20 : w2.cell? ⟨w.heap.size, 0, none⟩ = some (.string s) := (hb2.cell (p := ⟨w.heap.size, 0, none⟩) z1).trans x0; have y21 : w2.cell? ⟨w.heap.size, 1, none⟩ = some (.int .i64 a) := (hb2.cell (p := ⟨w.heap.size, 1, none⟩) z1).trans x1; have gb2 : Below w1.heap.size w1 w2 := ((Below.refl w1.heap.size w1).drew).trans (hb2.mono (Nat.le_refl _)); skip) | (go_at_call 19; guard_target = Calls Try.prog 19 _ (World.alloc _ _) _; refine (toBits_any s a (w2.alloc _)).mono ?_; rintro e w3 ⟨rfl, hb3⟩; have vb3 : w3.heap[w2.heap.size]? = some (.cells #[.string ⟨#[]⟩, .int .i64 0] 36 (0, 0)) := (hb3.block _ (by simp)).trans (heap_alloc_new w2 _); have vl3 : w2.heap.size < w3.heap.size := Nat.lt_of_lt_of_le (by simp) hb3.size; have ne3 : w.heap.size ≠ w2.heap.size := Nat.ne_of_lt z2; have nf3 : w2.heap.size ≠ w.heap.size := Nat.ne_of_gt z2; have hO3 := (hO2.alloc _).called hb3; have z3 : w.heap.size < w3.heap.size := Nat.lt_of_lt_of_le (grow_lt _ z2) hb3.size; have y30 : w3.cell? ⟨w.heap.size, 0, none⟩ = some (.string s) := (hb3.cell (p := ⟨w.heap.size, 0, none⟩) (grow_lt _ z2)).trans ((grow_cell _ z2 0).trans y20); have y31 : w3.cell? ⟨w.heap.size, 1, none⟩ = some (.int .i64 a) := (hb3.cell (p := ⟨w.heap.size, 1, none⟩) (grow_lt _ z2)).trans ((grow_cell _ z2 1).trans y21); have gb3 : Below w1.heap.size w1 w3 := (gb2.alloc gb2.size _).trans (hb3.mono (by have := gb2.size; simp; omega)); skip) | (go_at_call 19; refine (toBits_any s a w2).mono ?_; rintro e w3 ⟨rfl, hb3⟩; have vb3 := (hb3.block _ vl2).trans vb2; have vl3 := Nat.lt_of_lt_of_le vl2 hb3.size; have hO3 := hO2.called hb3; have z3 : w.heap.size < w3.heap.size := Nat.lt_of_lt_of_le z2 hb3.size; have y30 : w3.cell? ⟨w.heap.size, 0, none⟩ = some (.string s) := (hb3.cell (p := ⟨w.heap.size, 0, none⟩) z2).trans y20; have y31 : w3.cell? ⟨w.heap.size, 1, none⟩ = some (.int .i64 a) := (hb3.cell (p := ⟨w.heap.size, 1, none⟩) z2).trans y21; have gb3 : Below w1.heap.size w1 w3 := gb2.trans (hb3.mono (by have := gb2.size; omega)); skip) | (go_at_call 19; refine (toBits_any s a w2).mono ?_; rintro e w3 ⟨rfl, hb3⟩; have hO3 := hO2.called hb3; have z3 : w.heap.size < w3.heap.size := Nat.lt_of_lt_of_le z2 hb3.size; have y30 : w3.cell? ⟨w.heap.size, 0, none⟩ = some (.string s) := (hb3.cell (p := ⟨w.heap.size, 0, none⟩) z2).trans y20; have y31 : w3.cell? ⟨w.heap.size, 1, none⟩ = some (.int .i64 a) := (hb3.cell (p := ⟨w.heap.size, 1, none⟩) z2).trans y21; have gb3 : Below w1.heap.size w1 w3 := gb2.trans (hb3.mono (by have := gb2.size; omega)); skip) | (go_at_call 18; guard_target = Calls Try.prog 18 _ (World.alloc _ _) _; refine (Hx.out _ _ _ ((hO3.alloc _).came)).mono ?_; rintro e w4 ⟨rfl, hb4⟩; have vb4 : w4.heap[w3.heap.size]? = some (.cells #[.string ⟨#[]⟩, .int .i64 0] 36 (0, 0)) := (hb4.block _ (by simp)).trans (heap_alloc_new w3 _); have vl4 : w3.heap.size < w4.heap.size := Nat.lt_of_lt_of_le (by simp) hb4.size; have ne4 : w.heap.size ≠ w3.heap.size := Nat.ne_of_lt z3; have nf4 : w3.heap.size ≠ w.heap.size := Nat.ne_of_gt z3; have z4 : w.heap.size < w4.heap.size := Nat.lt_of_lt_of_le (grow_lt _ z3) hb4.size; have y40 : w4.cell? ⟨w.heap.size, 0, none⟩ = some (.string s) := (hb4.cell (p := ⟨w.heap.size, 0, none⟩) (grow_lt _ z3)).trans ((grow_cell _ z3 0).trans y30); have y41 : w4.cell? ⟨w.heap.size, 1, none⟩ = some (.int .i64 a) := (hb4.cell (p := ⟨w.heap.size, 1, none⟩) (grow_lt _ z3)).trans ((grow_cell _ z3 1).trans y31); have gb4 : Below w1.heap.size w1 w4 := (gb3.alloc gb3.size _).trans (hb4.mono (by have := gb3.size; simp; omega)); have v0 := cell_of_block vb4 0; have v1 := cell_of_block vb4 1; have vf := unfrozen_of_block vb4; skip) | (go_at_call 18; refine (Hx.out _ _ _ (hO3.came)).mono ?_; rintro e w4 ⟨rfl, hb4⟩; have vb4 := (hb4.block _ vl3).trans vb3; have vl4 := Nat.lt_of_lt_of_le vl3 hb4.size; have z4 : w.heap.size < w4.heap.size := Nat.lt_of_lt_of_le z3 hb4.size; have y40 : w4.cell? ⟨w.heap.size, 0, none⟩ = some (.string s) := (hb4.cell (p := ⟨w.heap.size, 0, none⟩) z3).trans y30; have y41 : w4.cell? ⟨w.heap.size, 1, none⟩ = some (.int .i64 a) := (hb4.cell (p := ⟨w.heap.size, 1, none⟩) z3).trans y31; have gb4 : Below w1.heap.size w1 w4 := gb3.trans (hb4.mono (by have := gb3.size; omega)); have v0 := cell_of_block vb4 0; have v1 := cell_of_block vb4 1; have vf := unfrozen_of_block vb4; skip) | (go_at_call 18; refine (Hx.out _ _ _ (hO3.came)).mono ?_; rintro e w4 ⟨rfl, hb4⟩; have z4 : w.heap.size < w4.heap.size := Nat.lt_of_lt_of_le z3 hb4.size; have y40 : w4.cell? ⟨w.heap.size, 0, none⟩ = some (.string s) := (hb4.cell (p := ⟨w.heap.size, 0, none⟩) z3).trans y30; have y41 : w4.cell? ⟨w.heap.size, 1, none⟩ = some (.int .i64 a) := (hb4.cell (p := ⟨w.heap.size, 1, none⟩) z3).trans y31; have gb4 : Below w1.heap.size w1 w4 := gb3.trans (hb4.mono (by have := gb3.size; omega)); skip))
    · go_wp2_with fail
      go_meet
      case rel => exact ⟨rfl, rfl, w4.heap.size, rfl, gb4.size, heap_alloc_new w4 _, gb4.alloc gb4.size _⟩
    all_goals
      go_wp2_with fail
      go_meet
      case rel => exact ⟨rfl, rfl, _, rfl, by first | exact Nat.le_refl _ | exact gb2.size | exact gb3.size, two_set vb4 _ _, two_below gb4 (by first | exact Nat.le_refl _ | exact gb2.size | exact gb3.size) _ _⟩
  case rest =>
    obtain ⟨rfl, rfl, β, rfl, hβ, hW, hB⟩ := hcut
    have HBc : Hid (Below w.heap.size w wc) := bnext HB1.out hB.out
    have hβl : β < wc.heap.size := by
      rcases Nat.lt_or_ge β wc.heap.size with q | q
      · exact q
      · have h := hW.out; rw [Array.getElem?_eq_none q] at h; cases h
    have b0 : wc.cell? ⟨w.heap.size, 0, none⟩ = some (.string s) := (hB.out.cell (p := ⟨w.heap.size, 0, none⟩) z1).trans x0
    have b1 : wc.cell? ⟨w.heap.size, 1, none⟩ = some (.int .i64 a) := (hB.out.cell (p := ⟨w.heap.size, 1, none⟩) z1).trans x1
    have zc : w.heap.size < wc.heap.size := Nat.lt_of_lt_of_le z1 hB.out.size
    clear x0 x1 HC1 hB
    go_wp2_with fail
    refine (toIntS_any a1 n c1 f wc (HC.out.called HBc.out) (by omega)).mono ?_
    rintro e w5 ⟨rfl, hO5, hb5⟩
    have HB5 : Hid (Below w.heap.size w w5) := bnext HBc.out hb5
    have HO5 : Hid (IOwn w5 wc.heap.size wc.heap.size n n f) := hO5
    have HW5 : Hid (w5.heap[β]? = some (.cells #[.string t, .int .i64 k] 36 (0, 0))) := (hb5.block β hβl).trans hW.out
    have q0 : w5.cell? ⟨w.heap.size, 0, none⟩ = some (.string s) := (hb5.cell (p := ⟨w.heap.size, 0, none⟩) zc).trans b0
    have q1 : w5.cell? ⟨w.heap.size, 1, none⟩ = some (.int .i64 a) := (hb5.cell (p := ⟨w.heap.size, 1, none⟩) zc).trans b1
    have l5 : β < w5.heap.size := Nat.lt_of_lt_of_le hβl hb5.size
    clear hO5 hb5 b0 b1
    go_wp2_with fail
    refine (toBits_any s a _).mono ?_
    rintro e w6 ⟨rfl, hb6⟩
    have HB6 : Hid (Below w.heap.size w w6) := bnext HB5.out hb6
    have HO6 : Hid (IOwn w6 wc.heap.size wc.heap.size n n f) := HO5.out.called hb6
    have HW6 : Hid (w6.heap[β]? = some (.cells #[.string t, .int .i64 k] 36 (0, 0))) := (hb6.block β l5).trans HW5.out
    have l6 : β < w6.heap.size := Nat.lt_of_lt_of_le l5 hb6.size
    clear hb6 q0 q1 HO5 HW5 HB5
    go_wp2_with fail
    refine (Hy.out _ n w6 HO6.out.came).mono ?_
    rintro e w7 ⟨rfl, hb7⟩
    have HB7 : Hid (Below w.heap.size w w7) := bnext HB6.out hb7
    have HO7 : Hid (IOwn w7 wc.heap.size wc.heap.size n n f) := HO6.out.called hb7
    have hW7 := (hb7.block β l6).trans HW6.out
    have v0 : w7.cell? ⟨β, 0, none⟩ = some (.string t) := cell_of_block hW7 0
    have v1 : w7.cell? ⟨β, 1, none⟩ = some (.int .i64 k) := cell_of_block hW7 1
    have l7 : β < w7.heap.size := Nat.lt_of_lt_of_le l6 hb7.size
    clear hb7 HO6 HW6 HB6 hW7
    go_wp2_with fail
    refine (eqBits_same t k _).mono ?_
    rintro e w8 ⟨rfl, hb8⟩
    have HB8 : Hid (Below w.heap.size w w8) := bnext (bal HB7.out _) hb8
    have HO8 : Hid (IOwn w8 wc.heap.size wc.heap.size n n f) := (HO7.out.alloc _).called hb8
    clear hb8 HO7 HB7 v0 v1
    go_wp2_with fail
    refine (toIntS_any a1 n c1 f w8 (HC.out.called HB8.out) (by omega)).mono ?_
    rintro e w9 ⟨rfl, hO9, hb9⟩
    have HB9 : Hid (Below w.heap.size w w9) := bnext HB8.out hb9
    have HO9 : Hid (IOwn w9 wc.heap.size wc.heap.size n n f) := HO8.out.called hb9
    have HP9 : Hid (IOwn w9 w8.heap.size w8.heap.size n n f) := hO9
    clear hO9 hb9 HB8 HO8
    go_wp2_with fail
    refine (eqIntS_same _ _ n _ _ f w9 HO9.out.came HP9.out.came (by omega)).mono ?_
    rintro e w10 ⟨rfl, hb10⟩
    go_wp2_with fail
    go_ret
    exact ⟨rfl, bnext HB9.out hb10⟩

theorem FnExactTakeSymbol_over (hA : SymAnswer) (a1 : Option Addr) (n c1 : Nat) (zs : List Int) (s : ByteArray) (a : Int) (w : World) (hr : IsRow .i64 w a1 n c1 zs) (hs0 : s.size ≤ maxLen) (hwa : (Lit.int .i64 a).wf = true) :
    Calls Try.prog 6 #[.slice a1 n c1, .agg #[.string s, .int .i64 a]] w fun e w' => e = .returned (.bool true) ∧ Below w.heap.size w w' := by
  obtain ⟨hC, hl, hf⟩ := came_of_row hr
  obtain ⟨ha1, ha2⟩ := bounds_i64 hwa
  unfold maxLen at hl
  by_cases h1 : (n : Int) ≤ 1048576
  · by_cases h2 : (s.size : Int) ≤ 1048576
    · by_cases hG : Coded (fun j => zs.getD j 0) n
      · by_cases hN : ∃ i k, Next (fun j => zs.getD j 0) n s a i k
        · obtain ⟨i, k, hN⟩ := hN
          exact FnExactTakeSymbol_at a1 n c1 _ s s a _ _ _ w hC h1 h2 (fun b c w k' => (specSym_good b n c _ s a w k' hG hs0 ha1 ha2).1 i k hN) (fun b c w k' => (hA b n c _ s a w k' (by omega) hf (by omega) ha1 ha2).1 i k hG hN)
        · exact FnExactTakeSymbol_at a1 n c1 _ s _ a _ _ _ w hC h1 h2 (fun b c w k' => (specSym_good b n c _ s a w k' hG hs0 ha1 ha2).2 (fun i k h => hN ⟨i, k, h⟩)) (fun b c w k' => (hA b n c _ s a w k' (by omega) hf (by omega) ha1 ha2).2 (fun h => hN h.2))
      · exact FnExactTakeSymbol_at a1 n c1 _ s _ a _ _ _ w hC h1 h2 (fun b c w k' => specSym_bad b n c _ s a w k' (by omega) hG) (fun b c w k' => (hA b n c _ s a w k' (by omega) hf (by omega) ha1 ha2).2 (fun h => hG h.1))
    · have d : (1048576 : Int) < (s.size : Int) := by omega
      clear hr hC hA hf
      go_enter Try.func6, Try.ntmps6
      go_wp2_with fail
      refine (szBits_no s a _ _ hs0 (by omega) (by omega) d).mono ?_
      rintro e w1 ⟨rfl, hb1⟩
      go_wp2_with fail
      go_ret
      exact ⟨rfl, bnext (bstart _ _) hb1⟩
  · have d : (1048576 : Int) < n := by omega
    clear hr hC hA hf
    go_enter Try.func6, Try.ntmps6
    go_wp2_with fail
    go_ret
    exact ⟨rfl, bstart _ _⟩

end Go.Proofs.Ytbfjgkoohdknnab
