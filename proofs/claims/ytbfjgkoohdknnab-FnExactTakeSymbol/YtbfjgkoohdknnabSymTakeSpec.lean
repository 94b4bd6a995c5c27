/-
  The walks of the document's model of TakeSymbol.
-/
import Derived.Test.YtbfjgkoohdknnabRows
import Derived.Test.YtbfjgkoohdknnabBase
import Derived.Test.YtbfjgkoohdknnabOutMath
import Derived.Test.YtbfjgkoohdknnabCodeMath
import Derived.Test.YtbfjgkoohdknnabHitMath
import Derived.Test.YtbfjgkoohdknnabOwnLib
import Derived.Test.YtbfjgkoohdknnabIntsLib
import Derived.Test.YtbfjgkoohdknnabCodeSpec
import Derived.Test.YtbfjgkoohdknnabCodesSpec
import Derived.Test.YtbfjgkoohdknnabSymSpec
import Derived.WalkKit
import Derived.ProofKit
import Derived.WalkLawsBesides
import Derived.RegionTactic
import Derived.BigRegion
import Derived.Lib.SmallJoins
namespace Go.Proofs.Ytbfjgkoohdknnab
open Go.RowKit Go.Joins OutMath CodeMath HitMath

/-- TakeSymbol hands back a number, what lies in its second block, and a flag. -/
theorem sym_ret {w W : World} {v0 v1 x b : Value} {post : Ending → World → Prop} {ac : Act} (hc : W.heap[w.heap.size + 1]? = some (.cells #[v0, v1] 36 (0, 0))) (h4 : ac.tmps[4]?.getD undef = x) (h5 : ac.tmps[5]?.getD undef = .pointer (some ⟨w.heap.size + 1, 0, none⟩)) (h6 : ac.tmps[6]?.getD undef = b) (hd : ac.defers = []) (h : post (.returned (.tuple #[x, .agg #[v0, v1], b])) W) : bodyPost Try.prog Try.f18 post Exit.ret ac W := by
  have c0 : W.cell? ⟨w.heap.size + 1, 0, none⟩ = some v0 := cell_of_block hc 0
  have c1 : W.cell? ⟨w.heap.size + 1, 1, none⟩ = some v1 := cell_of_block hc 1
  exact bodyPost_ret (v := .tuple #[x, .agg #[v0, v1], b]) (by simp [results, Try.results18, go_sem, h4, h5, h6, c0, c1]) hd h

/-- The second block, set. -/
theorem second_set {w w1 : World} {u0 u1 : Value} (h : w1.heap[w.heap.size + 1]? = some (.cells #[u0, u1] 36 (0, 0))) (hB : Below w.heap.size w w1) (v0 v1 : Value) :
    ((w1.setCell ⟨w.heap.size + 1, 0, none⟩ v0).setCell ⟨w.heap.size + 1, 1, none⟩ v1).heap[w.heap.size + 1]? = some (.cells #[v0, v1] 36 (0, 0)) ∧ Below w.heap.size w ((w1.setCell ⟨w.heap.size + 1, 0, none⟩ v0).setCell ⟨w.heap.size + 1, 1, none⟩ v1) := by
  have h0 := block_setCell (i := 0) h v0
  have h1 := block_setCell (i := 1) h0 v1
  exact ⟨by simpa using h1, Below.setCell (p := ⟨w.heap.size + 1, 1, none⟩) (Below.setCell (p := ⟨w.heap.size + 1, 0, none⟩) hB (Nat.le_succ _) _) (Nat.le_succ _) _⟩

/-- What TakeSymbol starts with. -/
theorem sym_start (w : World) (s : ByteArray) (a : Int) : ((w.alloc (.cells #[.string s, .int .i64 a] 36)).alloc (.cells #[.string ⟨#[]⟩, .int .i64 0] 36)).heap[w.heap.size + 1]? = some (.cells #[.string ⟨#[]⟩, .int .i64 0] 36 (0, 0)) ∧ ((w.alloc (.cells #[.string s, .int .i64 a] 36)).alloc (.cells #[.string ⟨#[]⟩, .int .i64 0] 36)).heap[w.heap.size]? = some (.cells #[.string s, .int .i64 a] 36 (0, 0)) ∧ Below w.heap.size w ((w.alloc (.cells #[.string s, .int .i64 a] 36)).alloc (.cells #[.string ⟨#[]⟩, .int .i64 0] 36)) := by
  refine ⟨?_, ?_, bal (bstart _ _) _⟩
  · show ((w.heap.push _).push _)[w.heap.size + 1]? = _
    rw [Array.getElem?_push, if_pos (by simp)]
  · show ((w.heap.push _).push _)[w.heap.size]? = _
    rw [Array.getElem?_push, if_neg (by simp), Array.getElem?_push, if_pos rfl]

set_option maxHeartbeats 800000 in
theorem specSym_bad (a1 : Option Addr) (n c1 : Nat) (f : Nat → Int) (s : ByteArray) (a : Int) (w : World) (h1 : Came w a1 n f) (hn : n ≤ 1048576) (hB : ¬ Coded f n) :
    Calls Try.prog 18 #[.slice a1 n c1, .agg #[.string s, .int .i64 a]] w fun e w' => e = .returned (.tuple #[.int .i64 0, .agg #[.string ⟨#[]⟩, .int .i64 0], .bool false]) ∧ Below w.heap.size w w' := by
  have HC : Hid (Came w a1 n f) := h1
  have HB : Hid (¬ Coded f n) := hB
  clear h1 hB
  go_enter Try.func18, Try.ntmps18
  go_wp2_with fail
  obtain ⟨hr0, _, hb0⟩ := sym_start w s a
  refine (specCodes_bad a1 n c1 f _ (HC.out.called hb0) hn HB.out).mono ?_
  rintro e w1 ⟨rfl, hz, hb1⟩
  have hr1 := (hb1.block (w.heap.size + 1) (by simp)).trans hr0
  have HB1 := second_set hr1 (bnext hb0 hb1) (.string ⟨#[]⟩) (.int .i64 0)
  have c0 : w1.cell? ⟨w.heap.size + 1, 0, none⟩ = some (.string ⟨#[]⟩) := cell_of_block hr1 0
  have c1 : w1.cell? ⟨w.heap.size + 1, 1, none⟩ = some (.int .i64 0) := cell_of_block hr1 1
  have cf : ∀ i, w1.frozen? ⟨w.heap.size + 1, i, none⟩ = false := fun i => unfrozen_of_block hr1 i
  clear hb0 hb1 hr1 hr0
  go_wp2_with fail
  generalize (w1.setCell ⟨w.heap.size + 1, 0, none⟩ (.string ⟨#[]⟩)).setCell ⟨w.heap.size + 1, 1, none⟩ (.int .i64 0) = W at HB1 ⊢
  refine sym_ret (w := w) HB1.1 ?_ ?_ ?_ ?_ ⟨rfl, HB1.2⟩ <;> rfl

set_option maxHeartbeats 1600000 in
theorem specSym_good (a1 : Option Addr) (n c1 : Nat) (f : Nat → Int) (s : ByteArray) (a : Int) (w : World) (h1 : Came w a1 n f) (hG : Coded f n) (hs : s.size ≤ maxLen) (ha1 : -9223372036854775808 ≤ a) (ha2 : a ≤ 9223372036854775807) :
    (∀ i k, Next f n s a i k → Calls Try.prog 18 #[.slice a1 n c1, .agg #[.string s, .int .i64 a]] w fun e w' => e = .returned (.tuple #[.int .i64 (i : Nat), .agg #[.string s, .int .i64 (a + (k : Nat))], .bool true]) ∧ Below w.heap.size w w') ∧
    ((∀ i k, ¬ Next f n s a i k) → Calls Try.prog 18 #[.slice a1 n c1, .agg #[.string s, .int .i64 a]] w fun e w' => e = .returned (.tuple #[.int .i64 0, .agg #[.string ⟨#[]⟩, .int .i64 0], .bool false]) ∧ Below w.heap.size w w') := by
  have HC : Hid (Came w a1 n f) := h1
  have HG : Hid (Coded f n) := hG
  have HS : Hid (s.size ≤ maxLen) := hs
  unfold maxLen at hs
  have HT : Hid (∀ (a2 : Option Addr) (c2 : Nat) (w' : World), Came w' a1 n f → Came w' a2 n (codeOf f n) → Calls Try.prog 28 #[.slice a1 n c1, .slice a2 n c2, .agg #[.string s, .int .i64 a]] w' (TakePost f n s a w')) := fun a2 c2 w' k1 k2 => l03Take_any a1 a2 n c1 c2 f s a w' k1 k2 HG.out HS.out ha1 ha2
  clear h1 hG
  constructor
  · intro i k hN
    have HN : Hid (Next f n s a i k) := hN
    clear hN
    go_enter Try.func18, Try.ntmps18
    go_wp2_with fail
    obtain ⟨hr0, hq0, hb0⟩ := sym_start w s a
    refine (specCodes_good a1 n c1 f _ (HC.out.called hb0) HG.out).mono ?_
    rintro e w1 ⟨rfl, hO1, hb1⟩
    have hr1 := (hb1.block (w.heap.size + 1) (by simp)).trans hr0
    have hq1 := (hb1.block w.heap.size (by simp; omega)).trans hq0
    have hb2 := bnext hb0 hb1
    have b0 : w1.cell? ⟨w.heap.size, 0, none⟩ = some (.string s) := cell_of_block hq1 0
    have b1 : w1.cell? ⟨w.heap.size, 1, none⟩ = some (.int .i64 a) := cell_of_block hq1 1
    have HH : Hid (w1.heap[w.heap.size + 1]? = some (.cells #[.string ⟨#[]⟩, .int .i64 0] 36 (0, 0)) ∧ Below w.heap.size w w1) := ⟨hr1, hb2⟩
    have HO1 : Hid (Came w1 (some ⟨w.heap.size + 1 + 1, 0, none⟩) n (codeOf f n)) := by
      have h := hO1.sl.came
      have e : ((w.alloc (.cells #[.string s, .int .i64 a] 36)).alloc (.cells #[.string ⟨#[]⟩, .int .i64 0] 36)).heap.size = w.heap.size + 1 + 1 := by simp
      rw [e] at h
      exact h
    have hlt : w.heap.size + 1 < w1.heap.size := World.block_lt_of_cell? w1 ⟨w.heap.size + 1, 0, none⟩ (cell_of_block hr1 0)
    clear hr0 hq0 hb0 hb1 hr1 hq1 hb2 hO1
    go_wp2_with fail
    refine (HT.out _ _ w1 (HC.out.called HH.out.2) HO1.out).mono ?_
    rintro e w2 ⟨hb2, (⟨i', k', hN', rfl⟩ | ⟨hM, _⟩)⟩
    · obtain ⟨rfl, rfl⟩ : i' = i ∧ k' = k := hit_one hN'.2.2 HN.out.2.2
      have hr2 := (hb2.block (w.heap.size + 1) hlt).trans HH.out.1
      have HH2 : Hid (w2.heap[w.heap.size + 1]? = some (.cells #[.string ⟨#[]⟩, .int .i64 0] 36 (0, 0)) ∧ Below w.heap.size w w2) := ⟨hr2, bnext HH.out.2 hb2⟩
      have c0 : w2.cell? ⟨w.heap.size + 1, 0, none⟩ = some (.string ⟨#[]⟩) := cell_of_block hr2 0
      have c1 : w2.cell? ⟨w.heap.size + 1, 1, none⟩ = some (.int .i64 0) := cell_of_block hr2 1
      have cf : ∀ i, w2.frozen? ⟨w.heap.size + 1, i, none⟩ = false := fun i => unfrozen_of_block hr2 i
      have hlt2 : w.heap.size + 1 < w2.heap.size := Nat.lt_of_lt_of_le hlt hb2.size
      clear hb2 hr2 hN'
      go_wp2_with fail
      go_region
      go_wp2_with fail
      have HB3 := second_set HH2.out.1 HH2.out.2 (.string s) (.int .i64 (a + (k' : Nat)))
      have hl3 : w.heap.size + 1 < ((w2.setCell ⟨w.heap.size + 1, 0, none⟩ (.string s)).setCell ⟨w.heap.size + 1, 1, none⟩ (.int .i64 (a + (k' : Nat)))).heap.size := by simpa using hlt2
      generalize (w2.setCell ⟨w.heap.size + 1, 0, none⟩ (.string s)).setCell ⟨w.heap.size + 1, 1, none⟩ (.int .i64 (a + (k' : Nat))) = W at HB3 hl3 ⊢
      refine sym_ret (w := w) (W := (W.alloc _).drew) ((Below.heap_alloc W _ _ hl3).trans HB3.1) ?_ ?_ ?_ ?_ ⟨rfl, (HB3.2.alloc (by omega) _).drew⟩ <;> rfl
    · exact absurd HN.out (hM i k)
  · intro hM
    have HM : Hid (∀ i k, ¬ Next f n s a i k) := hM
    clear hM
    go_enter Try.func18, Try.ntmps18
    go_wp2_with fail
    obtain ⟨hr0, hq0, hb0⟩ := sym_start w s a
    refine (specCodes_good a1 n c1 f _ (HC.out.called hb0) HG.out).mono ?_
    rintro e w1 ⟨rfl, hO1, hb1⟩
    have hr1 := (hb1.block (w.heap.size + 1) (by simp)).trans hr0
    have hq1 := (hb1.block w.heap.size (by simp; omega)).trans hq0
    have hb2 := bnext hb0 hb1
    have b0 : w1.cell? ⟨w.heap.size, 0, none⟩ = some (.string s) := cell_of_block hq1 0
    have b1 : w1.cell? ⟨w.heap.size, 1, none⟩ = some (.int .i64 a) := cell_of_block hq1 1
    have HH : Hid (w1.heap[w.heap.size + 1]? = some (.cells #[.string ⟨#[]⟩, .int .i64 0] 36 (0, 0)) ∧ Below w.heap.size w w1) := ⟨hr1, hb2⟩
    have HO1 : Hid (Came w1 (some ⟨w.heap.size + 1 + 1, 0, none⟩) n (codeOf f n)) := by
      have h := hO1.sl.came
      have e : ((w.alloc (.cells #[.string s, .int .i64 a] 36)).alloc (.cells #[.string ⟨#[]⟩, .int .i64 0] 36)).heap.size = w.heap.size + 1 + 1 := by simp
      rw [e] at h
      exact h
    have hlt : w.heap.size + 1 < w1.heap.size := World.block_lt_of_cell? w1 ⟨w.heap.size + 1, 0, none⟩ (cell_of_block hr1 0)
    clear hr0 hq0 hb0 hb1 hr1 hq1 hb2 hO1
    go_wp2_with fail
    refine (HT.out _ _ w1 (HC.out.called HH.out.2) HO1.out).mono ?_
    rintro e w2 ⟨hb2, (⟨i', k', hN', rfl⟩ | ⟨_, x, hx, rfl⟩)⟩
    · exact absurd hN' (HM.out i' k')
    · have hr2 := (hb2.block (w.heap.size + 1) hlt).trans HH.out.1
      have HH2 : Hid (w2.heap[w.heap.size + 1]? = some (.cells #[.string ⟨#[]⟩, .int .i64 0] 36 (0, 0)) ∧ Below w.heap.size w w2) := ⟨hr2, bnext HH.out.2 hb2⟩
      have c0 : w2.cell? ⟨w.heap.size + 1, 0, none⟩ = some (.string ⟨#[]⟩) := cell_of_block hr2 0
      have c1 : w2.cell? ⟨w.heap.size + 1, 1, none⟩ = some (.int .i64 0) := cell_of_block hr2 1
      have cf : ∀ i, w2.frozen? ⟨w.heap.size + 1, i, none⟩ = false := fun i => unfrozen_of_block hr2 i
      have hlt2 : w.heap.size + 1 < w2.heap.size := Nat.lt_of_lt_of_le hlt hb2.size
      have dx : (x != 0) = true := by simpa using hx
      clear hb2 hr2 hx
      go_wp2_with fail
      have HB3 := second_set HH2.out.1 HH2.out.2 (.string ⟨#[]⟩) (.int .i64 0)
      have hl3 : w.heap.size + 1 < ((w2.setCell ⟨w.heap.size + 1, 0, none⟩ (.string ⟨#[]⟩)).setCell ⟨w.heap.size + 1, 1, none⟩ (.int .i64 0)).heap.size := by simpa using hlt2
      generalize (w2.setCell ⟨w.heap.size + 1, 0, none⟩ (.string ⟨#[]⟩)).setCell ⟨w.heap.size + 1, 1, none⟩ (.int .i64 0) = W at HB3 hl3 ⊢
      refine sym_ret (w := w) (W := W.alloc _) ((Below.heap_alloc W _ _ hl3).trans HB3.1) ?_ ?_ ?_ ?_ ⟨rfl, HB3.2.alloc (by omega) _⟩ <;> rfl

end Go.Proofs.Ytbfjgkoohdknnab
