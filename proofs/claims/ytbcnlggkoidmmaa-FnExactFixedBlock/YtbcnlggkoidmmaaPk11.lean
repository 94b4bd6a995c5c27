/-
  'make' of tokens.
  The walks of the laws' helpers over lists of tokens.
  The law FnExactFixedBlock over what both functions answer.
  The walk of the model's 'in least .. most'.
-/
import Derived.Test.YtbcnlggkoidmmaaRows
import Derived.Test.YtbcnlggkoidmmaaPk01
import Derived.Test.YtbcnlggkoidmmaaPk02
import Derived.Test.YtbcnlggkoidmmaaPk10
import Derived.WalkKit
import Derived.ProofKit
import Derived.Below
import Derived.OwnWalk
import Derived.Laws.MakeOwn
import Derived.Lib.SmallJoins
import Derived.WalkLawsBesides
import Derived.Sort.Grow
import Derived.Shelf.SlSortCmp.QuietGrown
namespace Go.Proofs.Ytbcnlggkoidmmaa
open Go.RowKit Go.Joins TokMath

theorem make_toks (w : World) (n : Nat) (hn : n ≤ 1048576) : (Instr.makeSlice 27 (.int .i64 n) (.int .i64 n)).run Try.prog w = .ok (.slice (some ⟨w.heap.size, 0, none⟩) n n) (w.alloc (.cells (madeCells #[.int .i64 0, .int .i64 0, .int .i64 0] (n * 3)) 47)) := by
  obtain ⟨i0, hi0, hz0, hz1, hz2⟩ := info_parts info_tok
  have h := run_make (P := Try.prog) w 27 47 i0 (.agg #[.int .i64 0, .int .i64 0, .int .i64 0]) Try.underlying27 hi0 hz0 .i64 .i64 n n (by omega) (by omega) (by rw [hz2]; omega) (by omega)
  rw [hz1, Int.toNat_natCast] at h
  exact h
theorem made_tok (n j : Nat) (hj : j < n * 3) : (madeCells #[Value.int .i64 0, .int .i64 0, .int .i64 0] (n * 3))[j]? = some (.int .i64 0) := by
  unfold madeCells
  rw [Array.getElem?_map, Array.getElem?_range, if_pos hj]
  show some ((#[Value.int .i64 0, .int .i64 0, .int .i64 0])[j % 3]!) = _
  have h : j % 3 < 3 := Nat.mod_lt _ (by omega)
  generalize j % 3 = q at h
  match q, h with
  | 0, _ => rfl
  | 1, _ => rfl
  | 2, _ => rfl
theorem TOwn.made (w : World) (base n : Nat) (hb : base ≤ w.heap.size) : TOwn (w.alloc (.cells (madeCells #[.int .i64 0, .int .i64 0, .int .i64 0] (n * 3)) 47)) base w.heap.size n (fun _ => (0, 0, 0)) :=
  ⟨hb, _, heap_alloc_new w _, by rw [size_madeCells]; exact Nat.le_refl _, fun j hj => ⟨made_tok n _ (by omega), made_tok n _ (by omega), made_tok n _ (by omega)⟩⟩

end Go.Proofs.Ytbcnlggkoidmmaa

namespace Go.Proofs.Ytbcnlggkoidmmaa
open Go.RowKit Go.Joins Go.Sort TokMath

theorem toToken_any (x y z : Int) (w : World) : Calls Try.prog 27 #[.agg #[.int .i64 x, .int .i64 y, .int .i64 z]] w fun e w' => e = .returned (.agg #[.int .i64 x, .int .i64 y, .int .i64 z]) ∧ Below w.heap.size w w' := by
  go_enter Try.func27, Try.ntmps27
  go_wp2_with fail
  exact bodyPost_ret (v := .agg #[.int .i64 x, .int .i64 y, .int .i64 z]) (by simp [results, Try.results27, go_sem]) rfl ⟨rfl, bal (bal (bstart _ _) _) _⟩
theorem szTokenS_any (a : Option Addr) (n c : Nat) (z : Int) (w : World) (hn : n ≤ 9223372036854775807) (hz0 : 0 ≤ z) (hz : z ≤ 10000000) : Calls Try.prog 6 #[.slice a n c, .int .i64 z] w fun e w' => e = .returned (.int .i64 (if (n : Int) ≤ z then z - n else -1)) ∧ w = w' := by
  by_cases h : (n : Int) ≤ z
  · rw [if_pos h]
    have d : decide (z - (n : Int) < 0) = false := decide_eq_false (by omega)
    go_enter Try.func6, Try.ntmps6
    go_wp2_with fail
    go_ret
    exact ⟨rfl, rfl⟩
  · rw [if_neg h]
    have d : decide (z - (n : Int) < 0) = true := decide_eq_true (by omega)
    go_enter Try.func6, Try.ntmps6
    go_wp2_with fail
    go_ret
    exact ⟨rfl, rfl⟩

/-- What the ring of toTokenS has at hand. -/
def TokSt (w w' : World) (n : Nat) (F : Nat → Tok) (j : Nat) : Prop := Below w.heap.size w w' ∧ ∃ cur, w'.heap[w.heap.size]? = some (.cells cur 47 (0, 0)) ∧ cur.size = n * 3 ∧ ∀ i, i < j → cur[i * 3]? = some (.int .i64 (F i).1) ∧ cur[i * 3 + 1]? = some (.int .i64 (F i).2.1) ∧ cur[i * 3 + 2]? = some (.int .i64 (F i).2.2)
theorem TokSt.called {w w1 w2 : World} {n : Nat} {F : Nat → Tok} {j : Nat} (h : TokSt w w1 n F j) (hb : Below w1.heap.size w1 w2) : TokSt w w2 n F j := by
  obtain ⟨h1, cur, h2, h3⟩ := h
  exact ⟨bnext h1 hb, cur, (hb.block _ (block_lt h2)).trans h2, h3⟩
theorem tok_next {w w' : World} {n : Nat} {F : Nat → Tok} {j : Nat} (h : TokSt w w' n F j) (hj : j < n) : TokSt w (((w'.setCell ⟨w.heap.size, j * 3, none⟩ (.int .i64 (F j).1)).setCell ⟨w.heap.size, j * 3 + 1, none⟩ (.int .i64 (F j).2.1)).setCell ⟨w.heap.size, j * 3 + 2, none⟩ (.int .i64 (F j).2.2)) n F (j + 1) := by
  obtain ⟨h1, cur, h2, h3, h4⟩ := h
  refine ⟨((h1.setCell (p := ⟨w.heap.size, j * 3, none⟩) (Nat.le_refl _) _).setCell (p := ⟨w.heap.size, j * 3 + 1, none⟩) (Nat.le_refl _) _).setCell (p := ⟨w.heap.size, j * 3 + 2, none⟩) (Nat.le_refl _) _, ((cur.setIfInBounds (j * 3) (.int .i64 (F j).1)).setIfInBounds (j * 3 + 1) (.int .i64 (F j).2.1)).setIfInBounds (j * 3 + 2) (.int .i64 (F j).2.2), ?_, by simpa using h3, fun i hi => ?_⟩
  · simp [World.setCell, Array.getElem?_modify, h2]
  · by_cases e : i = j
    · subst e
      refine ⟨?_, ?_, ?_⟩
      · rw [Array.getElem?_setIfInBounds_ne (by omega), Array.getElem?_setIfInBounds_ne (by omega), Array.getElem?_setIfInBounds_self_of_lt (by omega)]
      · rw [Array.getElem?_setIfInBounds_ne (by omega), Array.getElem?_setIfInBounds_self_of_lt (by simp; omega)]
      · rw [Array.getElem?_setIfInBounds_self_of_lt (by simp; omega)]
    · obtain ⟨k1, k2, k3⟩ := h4 i (by omega)
      refine ⟨?_, ?_, ?_⟩
      · rw [Array.getElem?_setIfInBounds_ne (by omega), Array.getElem?_setIfInBounds_ne (by omega), Array.getElem?_setIfInBounds_ne (by omega)]; exact k1
      · rw [Array.getElem?_setIfInBounds_ne (by omega), Array.getElem?_setIfInBounds_ne (by omega), Array.getElem?_setIfInBounds_ne (by omega)]; exact k2
      · rw [Array.getElem?_setIfInBounds_ne (by omega), Array.getElem?_setIfInBounds_ne (by omega), Array.getElem?_setIfInBounds_ne (by omega)]; exact k3
theorem tok_cell {w w' : World} {n : Nat} {F : Nat → Tok} {j : Nat} (h : TokSt w w' n F j) : w.heap.size < w'.heap.size ∧ (∀ k, w'.frozen? ⟨w.heap.size, k, none⟩ = false) ∧ (∀ k, k < n * 3 → ∃ u, w'.cell? ⟨w.heap.size, k, none⟩ = some u) := by
  obtain ⟨h1, cur, h2, h3, h4⟩ := h
  refine ⟨block_lt h2, fun k => by simp [World.frozen?, h2], fun k hk => ?_⟩
  rw [cell_of_block h2]
  exact ⟨cur[k]'(by omega), Array.getElem?_eq_getElem (by omega)⟩

set_option maxHeartbeats 1600000 in
theorem toTokenS_any (a : Option Addr) (n c : Nat) (F : Nat → Tok) (w : World) (hC : TCame w a n F) (hn : n ≤ 1048576) :
    Calls Try.prog 8 #[.slice a n c] w fun e w' => e = .returned (.slice (some ⟨w.heap.size, 0, none⟩) n n) ∧ TOwn w' w.heap.size w.heap.size n F ∧ Below w.heap.size w w' := by
  have HC := hid_of hC
  have hmk := make_toks w n hn
  have H0 : Hid (TokSt w (w.alloc (.cells (madeCells #[.int .i64 0, .int .i64 0, .int .i64 0] (n * 3)) 47)) n F 0) := ⟨bstart _ _, _, heap_alloc_new w _, by rw [size_madeCells], fun i hi => absurd hi (Nat.not_lt_zero i)⟩
  generalize w.alloc (.cells (madeCells #[.int .i64 0, .int .i64 0, .int .i64 0] (n * 3)) 47) = w0 at hmk H0
  clear hC
  go_enter Try.func8, Try.ntmps8
  go_wp2_with fail
  go_loopw [4] (fun i w' => ∃ j : Nat, j ≤ n ∧ i = .int .i64 j ∧ Hid (TokSt w w' n F j)) (fun i _ => n - (intOf i).toNat)
  case atStart => exact ⟨0, Nat.zero_le _, rfl, H0⟩
  case round =>
    clear H0 hmk
    obtain ⟨j, hj, rfl, hS⟩ := hrel
    by_cases hlt : j < n
    · rcases HC.out with h0 | ⟨g, off, rfl, hg, hc⟩
      · omega
      · have c0 : wr.cell? ⟨g, off + j * 3, none⟩ = some (.int .i64 (F j).1) := (hS.out.1.cell (p := ⟨g, off + j * 3, none⟩) hg).trans (hc j hlt).1
        have c1 : wr.cell? ⟨g, off + j * 3 + 1, none⟩ = some (.int .i64 (F j).2.1) := (hS.out.1.cell (p := ⟨g, off + j * 3 + 1, none⟩) hg).trans (hc j hlt).2.1
        have c2 : wr.cell? ⟨g, off + j * 3 + 2, none⟩ = some (.int .i64 (F j).2.2) := (hS.out.1.cell (p := ⟨g, off + j * 3 + 2, none⟩) hg).trans (hc j hlt).2.2
        have hl2 : g < wr.heap.size := Nat.lt_of_lt_of_le hg hS.out.1.size
        clear hc
        obtain ⟨x, hx⟩ : ∃ x, x = (F j).1 := ⟨_, rfl⟩
        obtain ⟨y, hy⟩ : ∃ y, y = (F j).2.1 := ⟨_, rfl⟩
        obtain ⟨z, hz⟩ : ∃ z, z = (F j).2.2 := ⟨_, rfl⟩
        rw [← hx] at c0
        rw [← hy] at c1
        rw [← hz] at c2
        have HXY := hid_of (And.intro hx (And.intro hy hz))
        clear hx hy hz
        go_wp2_with fail
        refine (toToken_any x y z wr).mono ?_
        rintro e w1 ⟨rfl, hB⟩
        have HS1 := hid_of (hS.out.called hB)
        clear hB
        obtain ⟨p1, p2, p3⟩ := tok_cell HS1.out
        obtain ⟨u0, q0⟩ := p3 (j * 3) (by omega)
        obtain ⟨u1, q1⟩ := p3 (j * 3 + 1) (by omega)
        obtain ⟨u2, q2⟩ := p3 (j * 3 + 2) (by omega)
        have HS2 : Hid (TokSt w (((w1.setCell ⟨w.heap.size, j * 3, none⟩ (.int .i64 x)).setCell ⟨w.heap.size, j * 3 + 1, none⟩ (.int .i64 y)).setCell ⟨w.heap.size, j * 3 + 2, none⟩ (.int .i64 z)) n F (j + 1)) := by
          have h := tok_next HS1.out hlt
          rw [← HXY.out.1, ← HXY.out.2.1, ← HXY.out.2.2] at h
          exact h
        clear p3
        go_wp2_with fail
        go_roundw
        case rel => exact ⟨j + 1, by omega, by go_num, HS2⟩
        case measure => simp [intOf]; omega
    · obtain rfl : j = n := by omega
      have HZ : Hid (TOwn wr w.heap.size w.heap.size j F ∧ Below w.heap.size w wr) := by
        obtain ⟨h1, cur, h2, h3, h4⟩ := hS.out
        exact ⟨⟨Nat.le_refl _, cur, h2, by omega, h4⟩, h1⟩
      go_wp2_with fail
      go_ret
      exact ⟨rfl, HZ.out⟩

end Go.Proofs.Ytbcnlggkoidmmaa

namespace Go.Proofs.Ytbcnlggkoidmmaa
open Go.RowKit Go.Joins OutMath TokMath

set_option maxRecDepth 100000 in
set_option maxHeartbeats 3200000 in
theorem FnExactFixedBlock_at (s t : ByteArray) (c n : Int) (b last : Bool) (a : Option Addr) (cp m : Nat) (F : Nat → Tok) (w : World) (hs : (s.size : Int) ≤ 1048576) (hm : (m : Int) ≤ 1048576 - (s.size : Int)) (hC : TCame w a m F)
    (hP : ∀ g w, TCame w (some ⟨g, 0, none⟩) m F → Calls Try.prog 20 #[.agg #[.string s, .int .i64 c], .slice (some ⟨g, 0, none⟩) m m, .bool last] w fun e w' => e = .returned (.tuple #[.agg #[.string t, .int .i64 n], .bool b]) ∧ Below w.heap.size w w')
    (hQ : ∀ g w, TCame w (some ⟨g, 0, none⟩) m F → Calls Try.prog 21 #[.agg #[.string s, .int .i64 c], .slice (some ⟨g, 0, none⟩) m m, .bool last] w fun e w' => e = .returned (.tuple #[.agg #[.string t, .int .i64 n], .bool b]) ∧ Below w.heap.size w w') :
    Calls Try.prog 5 #[.agg #[.string s, .int .i64 c], .slice a m cp, .bool last] w fun e w' => e = .returned (.bool true) ∧ Below w.heap.size w w' := by
  have HC := hid_of hC
  have HP := hid_of hP
  have HQ := hid_of hQ
  have hbb : (b != b) = false := bne_self_eq_false b
  have d : ¬ (1048576 : Int) - (s.size : Int) < 0 := by omega
  have d2 : ¬ (1048576 : Int) - (s.size : Int) - (m : Int) < 0 := by omega
  have d2' : decide ((1048576 : Int) - (s.size : Int) - (m : Int) < 0) = false := decide_eq_false (by omega)
  have hn : m ≤ 1048576 := by omega
  have hsz : ∀ W, Calls Try.prog 6 #[.slice a m cp, .int .i64 (1048576 - (s.size : Int))] W fun e w' => e = .returned (.int .i64 (1048576 - (s.size : Int) - (m : Int))) ∧ W = w' := fun W => by
    have h := szTokenS_any a m cp (1048576 - (s.size : Int)) W (by omega) (by omega) (by omega)
    rw [if_pos hm] at h
    exact h
  clear hC hP hQ
  go_enter Try.func5, Try.ntmps5
  go_wp2_with fail
  refine (szOut_ok s c _ _ (by omega) (by omega) (by omega)).mono ?_
  rintro e w1 ⟨rfl, hb1⟩
  have hr1 : w1.heap[w.heap.size]? = some (.cells #[.string s, .int .i64 c] 35 (0, 0)) := (hb1.block _ (by simp)).trans (heap_alloc_new w _)
  have HR1 := hid_of hr1
  have HB1 : Hid (Below w.heap.size w w1) := bnext (bstart _ _) hb1
  have x0 : w1.cell? ⟨w.heap.size, 0, none⟩ = some (.string s) := (cell_of_block hr1 0).trans rfl
  have x1 : w1.cell? ⟨w.heap.size, 1, none⟩ = some (.int .i64 c) := (cell_of_block hr1 1).trans rfl
  clear hb1 hr1
  go_wp2_with fail
  refine (hsz _).mono ?_
  rintro e w1' ⟨rfl, rfl⟩
  clear hsz
  go_wp2_with fail
  refine (toOut_any s c _).mono ?_
  rintro e w2 ⟨rfl, hb2⟩
  have HB2 := hid_of (bnext HB1.out hb2)
  have HR2 := hid_of ((hb2.block _ (block_lt HR1.out)).trans HR1.out)
  clear hb2 x0 x1 HB1 HR1
  go_wp2_with fail
  refine (toTokenS_any a m cp F _ (HC.out.called HB2.out) hn).mono ?_
  rintro e w3 ⟨rfl, hO3, hb3⟩
  have HB3 := hid_of (bnext HB2.out hb3)
  have HR3 := hid_of ((hb3.block _ (block_lt HR2.out)).trans HR2.out)
  have HO3 := hid_of hO3
  clear hb3 hO3 HB2 HR2
  go_wp2_with fail
  refine (HP.out _ _ HO3.out.came).mono ?_
  rintro e w4 ⟨rfl, hb4⟩
  have HB4 := hid_of (bal (bnext HB3.out hb4) (.cells #[.string t, .int .i64 n] 37))
  have HR4 := hid_of ((Below.heap_alloc w4 (.cells #[.string t, .int .i64 n] 37) _ (Nat.lt_of_lt_of_le (block_lt HR3.out) hb4.size)).trans ((hb4.block _ (block_lt HR3.out)).trans HR3.out))
  have HG4 : Hid ((w4.alloc (.cells #[.string t, .int .i64 n] 37)).heap[w4.heap.size]? = some (.cells #[.string t, .int .i64 n] 37 (0, 0))) := heap_alloc_new w4 _
  clear hb4 HB3 HR3 HO3 HP
  go_wp2_with fail
  generalize w4.alloc (.cells #[.string t, .int .i64 n] 37) = w5 at HB4 HR4 HG4 ⊢
  generalize w4.heap.size = g5 at HG4 ⊢
  refine (toTokenS_any a m cp F w5 (HC.out.called HB4.out) hn).mono ?_
  rintro e w6 ⟨rfl, hO6, hb6⟩
  have HB6 := hid_of (bnext HB4.out hb6)
  have hr6 := (hb6.block _ (block_lt HR4.out)).trans HR4.out
  have HR6 := hid_of hr6
  have HG6 := hid_of ((hb6.block _ (block_lt HG4.out)).trans HG4.out)
  have HO6 := hid_of hO6
  have x0 : w6.cell? ⟨w.heap.size, 0, none⟩ = some (.string s) := (cell_of_block hr6 0).trans rfl
  have x1 : w6.cell? ⟨w.heap.size, 1, none⟩ = some (.int .i64 c) := (cell_of_block hr6 1).trans rfl
  clear hb6 hO6 HB4 HR4 HG4 hr6
  go_wp2_with fail
  refine (toOut_any s c _).mono ?_
  rintro e w7 ⟨rfl, hb7⟩
  have HB7 := hid_of (bnext HB6.out hb7)
  have HG7 := hid_of ((hb7.block _ (block_lt HG6.out)).trans HG6.out)
  have HO7 := hid_of (HO6.out.called hb7)
  clear hb7 HB6 HG6 HO6 HR6 x0 x1
  go_wp2_with fail
  refine (HQ.out _ _ HO7.out.came).mono ?_
  rintro e w8 ⟨rfl, hb8⟩
  have HB8 := hid_of (bnext HB7.out hb8)
  have hg8 := (hb8.block _ (block_lt HG7.out)).trans HG7.out
  have HO8 := hid_of (HO7.out.called hb8)
  have y0 : w8.cell? ⟨g5, 0, none⟩ = some (.string t) := (cell_of_block hg8 0).trans rfl
  have y1 : w8.cell? ⟨g5, 1, none⟩ = some (.int .i64 n) := (cell_of_block hg8 1).trans rfl
  have yl := block_lt hg8
  clear hb8 HB7 HG7 HO7 HQ hg8
  go_wp2_with fail
  refine (eqOut_same t n _).mono ?_
  rintro e w9 ⟨rfl, hb9⟩
  have HB9 := hid_of (bnext (bal HB8.out _) hb9)
  have HO9 := hid_of (HO8.out.called (bnext (bstart w8 _) hb9))
  clear hb9 HB8 HO8 y0 y1 yl
  go_wp2_with fail
  refine (toTokenS_any a m cp F w9 (HC.out.called HB9.out) hn).mono ?_
  rintro e w10 ⟨rfl, hO10, hb10⟩
  have HB10 := hid_of (bnext HB9.out hb10)
  have HO10 := hid_of hO10
  have HO10' := hid_of (HO9.out.called hb10)
  clear hb10 hO10 HB9 HO9
  go_wp2_with fail
  refine (eqTokenS_same _ _ m m m F _ HO10'.out.came HO10.out.came hn).mono ?_
  rintro e w11 ⟨rfl, hb11⟩
  have HB11 := hid_of (bnext HB10.out hb11)
  clear hb11
  go_wp2_with fail
  go_ret
  exact ⟨rfl, HB11.out⟩
set_option maxRecDepth 100000 in
theorem FnExactFixedBlock_many (s : ByteArray) (c : Int) (a : Option Addr) (cp m : Nat) (last : Bool) (w : World) (hs : s.size ≤ maxLen) (hm : m ≤ maxLen) (h : ¬ (m : Int) ≤ 1048576 - (s.size : Int)) :
    Calls Try.prog 5 #[.agg #[.string s, .int .i64 c], .slice a m cp, .bool last] w fun e w' => e = .returned (.bool true) ∧ Below w.heap.size w w' := by
  by_cases h1 : (s.size : Int) ≤ 1048576
  · have d : ¬ (1048576 : Int) - (s.size : Int) < 0 := by omega
    have hsz : ∀ W, Calls Try.prog 6 #[.slice a m cp, .int .i64 (1048576 - (s.size : Int))] W fun e w' => e = .returned (.int .i64 (-1)) ∧ W = w' := fun W => by
      have hh := szTokenS_any a m cp (1048576 - (s.size : Int)) W (by unfold maxLen at hm; omega) (by omega) (by omega)
      rw [if_neg h] at hh
      exact hh
    go_enter Try.func5, Try.ntmps5
    go_wp2_with fail
    refine (szOut_ok s c _ _ (by omega) (by omega) (by omega)).mono ?_
    rintro e w1 ⟨rfl, hb1⟩
    go_wp2_with fail
    refine (hsz _).mono ?_
    rintro e w2 ⟨rfl, rfl⟩
    go_wp2_with fail
    go_ret
    exact ⟨rfl, bnext (bstart _ _) hb1⟩
  · have d : (1048576 : Int) < (s.size : Int) := by omega
    go_enter Try.func5, Try.ntmps5
    go_wp2_with fail
    refine (szOut_no s c _ _ hs (by omega) (by omega) d).mono ?_
    rintro e w1 ⟨rfl, hb1⟩
    go_wp2_with fail
    go_ret
    exact ⟨rfl, bnext (bstart _ _) hb1⟩
end Go.Proofs.Ytbcnlggkoidmmaa

namespace Go.Proofs.Ytbcnlggkoidmmaa
open Go.RowKit

theorem in_yes (x a b : Int) (w : World) (h1 : a ≤ x) (h2 : x ≤ b) :
    Calls Try.prog 46 #[.int .i64 x, .int .i64 a, .int .i64 b] w fun e w' => e = .returned (.bool true) ∧ w' = w := by
  go_enter Try.func46, Try.ntmps46
  go_wp2
  go_ret
  exact ⟨rfl, rfl⟩

theorem in_no (x a b : Int) (w : World) (h : ¬ (a ≤ x ∧ x ≤ b)) :
    Calls Try.prog 46 #[.int .i64 x, .int .i64 a, .int .i64 b] w fun e w' => e = .returned (.bool false) ∧ w' = w := by
  by_cases h1 : a ≤ x
  · have h2 : ¬ x ≤ b := fun k => h ⟨h1, k⟩
    clear h
    go_enter Try.func46, Try.ntmps46
    go_wp2
    go_ret
    exact ⟨rfl, rfl⟩
  · clear h
    go_enter Try.func46, Try.ntmps46
    go_wp2
    go_ret
    exact ⟨rfl, rfl⟩

end Go.Proofs.Ytbcnlggkoidmmaa
