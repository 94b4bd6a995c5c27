/-
  The law FnExactWovenBlock over what both functions answer.
  A list of numbers of the call's own, as a slice that was handed back.
  The walk of the document's model of the lengths of type 1.
  Lists of numbers that came in, as lists; two of them, one behind the other. Nothing here speaks of the program.
  Slices of Runs, by what stands where, and the walks of the laws' helpers over them.
-/
import Derived.Test.YtbcnlggkoidmmaaGreatDoorRows
import Derived.Test.YtbcnlggkoidmmaaGreatDoorPk01
import Derived.Test.YtbcnlggkoidmmaaGreatDoorPk12
import Derived.Test.YtbcnlggkoidmmaaGreatDoorPk05
import Derived.Test.YtbcnlggkoidmmaaGreatDoorPk08
import Derived.Test.YtbcnlggkoidmmaaGreatDoorPk06
import Derived.WalkKit
import Derived.ProofKit
import Derived.WalkLawsBesides
import Derived.Below
import Derived.Lib.SmallJoins
import Derived.OwnWalk
import Derived.Deep.LoopGhost
import Derived.Deep.AppendLies
import Derived.Sort.Grow
import Derived.Shelf.SlSortCmp.QuietGrown
namespace Go.Proofs.YtbcnlggkoidmmaaGreatDoor
open Go.RowKit Go.Joins OutMath TokMath

set_option maxRecDepth 100000 in
set_option maxHeartbeats 3200000 in
theorem FnExactWovenBlock_at (s t : ByteArray) (c n : Int) (b last : Bool) (a : Option Addr) (cp m : Nat) (F : Nat → Tok) (w : World) (hs : (s.size : Int) ≤ 1048576) (hm : (m : Int) ≤ 1048576 - (s.size : Int)) (hC : TCame w a m F)
    (hP : ∀ g w, TCame w (some ⟨g, 0, none⟩) m F → OrderG w → Calls Tryz.prog 20 #[.agg #[.string s, .int .i64 c], .slice (some ⟨g, 0, none⟩) m m, .bool last] w fun e w' => e = .returned (.tuple #[.agg #[.string t, .int .i64 n], .bool b]) ∧ Below w.heap.size w w')
    (hQ : ∀ g w, TCame w (some ⟨g, 0, none⟩) m F → OrderG w → Calls Tryz.prog 12 #[.agg #[.string s, .int .i64 c], .slice (some ⟨g, 0, none⟩) m m, .bool last] w fun e w' => e = .returned (.tuple #[.agg #[.string t, .int .i64 n], .bool b]) ∧ Below w.heap.size w w') (hG : OrderG w) :
    Calls Tryz.prog 5 #[.agg #[.string s, .int .i64 c], .slice a m cp, .bool last] w fun e w' => e = .returned (.bool true) ∧ Below w.heap.size w w' := by
  have HC := hid_of hC
  have HP := hid_of hP
  have HQ := hid_of hQ
  have HG := hid_of hG
  clear hG
  have hbb : (b != b) = false := bne_self_eq_false b
  have d : ¬ (1048576 : Int) - (s.size : Int) < 0 := by omega
  have d2 : ¬ (1048576 : Int) - (s.size : Int) - (m : Int) < 0 := by omega
  have d2' : decide ((1048576 : Int) - (s.size : Int) - (m : Int) < 0) = false := decide_eq_false (by omega)
  have hn : m ≤ 1048576 := by omega
  have hsz : ∀ W, Calls Tryz.prog 19 #[.slice a m cp, .int .i64 (1048576 - (s.size : Int))] W fun e w' => e = .returned (.int .i64 (1048576 - (s.size : Int) - (m : Int))) ∧ W = w' := fun W => by
    have h := szTokenS_any a m cp (1048576 - (s.size : Int)) W (by omega) (by omega) (by omega)
    rw [if_pos hm] at h
    exact h
  clear hC hP hQ
  go_enter Tryz.func5, Tryz.ntmps5
  go_wp2_with fail
  refine (szOut_ok s c _ _ (by omega) (by omega) (by omega)).mono ?_
  rintro e w1 ⟨rfl, hb1⟩
  have hr1 : w1.heap[w.heap.size]? = some (.cells #[.string s, .int .i64 c] 41 (0, 0)) := (hb1.block _ (by simp)).trans (heap_alloc_new w _)
  have HR1 := hid_of hr1
  have HB1 : Hid (Below w.heap.size w w1) := bnext (bstart _ _) hb1
  have x0 : w1.cell? ⟨w.heap.size, 0, none⟩ = some (.string s) := (cell_of_block hr1 0).trans rfl
  have x1 : w1.cell? ⟨w.heap.size, 1, none⟩ = some (.int .i64 c) := (cell_of_block hr1 1).trans rfl
  clear hb1 hr1
  go_wp2_with fail
  refine (hsz _).mono ?_
  rintro e w1' ⟨rfl, rfl⟩
  clear hsz
  go_wp2_with fail
  refine (toOut_any s c _).mono ?_
  rintro e w2 ⟨rfl, hb2⟩
  have HB2 := hid_of (bnext HB1.out hb2)
  have HR2 := hid_of ((hb2.block _ (block_lt HR1.out)).trans HR1.out)
  clear hb2 x0 x1 HB1 HR1
  go_wp2_with fail
  refine (toTokenS_any a m cp F _ (HC.out.called HB2.out) hn).mono ?_
  rintro e w3 ⟨rfl, hO3, hb3⟩
  have HB3 := hid_of (bnext HB2.out hb3)
  have HR3 := hid_of ((hb3.block _ (block_lt HR2.out)).trans HR2.out)
  have HO3 := hid_of hO3
  clear hb3 hO3 HB2 HR2
  go_wp2_with fail
  refine (HP.out _ _ HO3.out.came (HG.out.below HB3.out HG.out.1)).mono ?_
  rintro e w4 ⟨rfl, hb4⟩
  have HB4 := hid_of (bal (bnext HB3.out hb4) (.cells #[.string t, .int .i64 n] 31))
  have HR4 := hid_of ((Below.heap_alloc w4 (.cells #[.string t, .int .i64 n] 31) _ (Nat.lt_of_lt_of_le (block_lt HR3.out) hb4.size)).trans ((hb4.block _ (block_lt HR3.out)).trans HR3.out))
  have HG4 : Hid ((w4.alloc (.cells #[.string t, .int .i64 n] 31)).heap[w4.heap.size]? = some (.cells #[.string t, .int .i64 n] 31 (0, 0))) := heap_alloc_new w4 _
  clear hb4 HB3 HR3 HO3 HP
  go_wp2_with fail
  generalize w4.alloc (.cells #[.string t, .int .i64 n] 31) = w5 at HB4 HR4 HG4 ⊢
  generalize w4.heap.size = g5 at HG4 ⊢
  refine (toTokenS_any a m cp F w5 (HC.out.called HB4.out) hn).mono ?_
  rintro e w6 ⟨rfl, hO6, hb6⟩
  have HB6 := hid_of (bnext HB4.out hb6)
  have hr6 := (hb6.block _ (block_lt HR4.out)).trans HR4.out
  have HR6 := hid_of hr6
  have HG6 := hid_of ((hb6.block _ (block_lt HG4.out)).trans HG4.out)
  have HO6 := hid_of hO6
  have x0 : w6.cell? ⟨w.heap.size, 0, none⟩ = some (.string s) := (cell_of_block hr6 0).trans rfl
  have x1 : w6.cell? ⟨w.heap.size, 1, none⟩ = some (.int .i64 c) := (cell_of_block hr6 1).trans rfl
  clear hb6 hO6 HB4 HR4 HG4 hr6
  go_wp2_with fail
  refine (toOut_any s c _).mono ?_
  rintro e w7 ⟨rfl, hb7⟩
  have HB7 := hid_of (bnext HB6.out hb7)
  have HG7 := hid_of ((hb7.block _ (block_lt HG6.out)).trans HG6.out)
  have HO7 := hid_of (HO6.out.called hb7)
  clear hb7 HB6 HG6 HO6 HR6 x0 x1
  go_wp2_with fail
  refine (HQ.out _ _ HO7.out.came (HG.out.below HB7.out HG.out.1)).mono ?_
  rintro e w8 ⟨rfl, hb8⟩
  have HB8 := hid_of (bnext HB7.out hb8)
  have hg8 := (hb8.block _ (block_lt HG7.out)).trans HG7.out
  have HO8 := hid_of (HO7.out.called hb8)
  have y0 : w8.cell? ⟨g5, 0, none⟩ = some (.string t) := (cell_of_block hg8 0).trans rfl
  have y1 : w8.cell? ⟨g5, 1, none⟩ = some (.int .i64 n) := (cell_of_block hg8 1).trans rfl
  have yl := block_lt hg8
  clear hb8 HB7 HG7 HO7 HQ hg8
  go_wp2_with fail
  refine (eqOut_same t n _).mono ?_
  rintro e w9 ⟨rfl, hb9⟩
  have HB9 := hid_of (bnext (bal HB8.out _) hb9)
  have HO9 := hid_of (HO8.out.called (bnext (bstart w8 _) hb9))
  clear hb9 HB8 HO8 y0 y1 yl
  go_wp2_with fail
  refine (toTokenS_any a m cp F w9 (HC.out.called HB9.out) hn).mono ?_
  rintro e w10 ⟨rfl, hO10, hb10⟩
  have HB10 := hid_of (bnext HB9.out hb10)
  have HO10 := hid_of hO10
  have HO10' := hid_of (HO9.out.called hb10)
  clear hb10 hO10 HB9 HO9
  go_wp2_with fail
  refine (eqTokenS_same _ _ m m m F _ HO10'.out.came HO10.out.came hn).mono ?_
  rintro e w11 ⟨rfl, hb11⟩
  have HB11 := hid_of (bnext HB10.out hb11)
  clear hb11
  go_wp2_with fail
  go_ret
  exact ⟨rfl, HB11.out⟩
set_option maxRecDepth 100000 in
theorem FnExactWovenBlock_many (s : ByteArray) (c : Int) (a : Option Addr) (cp m : Nat) (last : Bool) (w : World) (hs : s.size ≤ maxLen) (hm : m ≤ maxLen) (h : ¬ (m : Int) ≤ 1048576 - (s.size : Int)) :
    Calls Tryz.prog 5 #[.agg #[.string s, .int .i64 c], .slice a m cp, .bool last] w fun e w' => e = .returned (.bool true) ∧ Below w.heap.size w w' := by
  by_cases h1 : (s.size : Int) ≤ 1048576
  · have d : ¬ (1048576 : Int) - (s.size : Int) < 0 := by omega
    have hsz : ∀ W, Calls Tryz.prog 19 #[.slice a m cp, .int .i64 (1048576 - (s.size : Int))] W fun e w' => e = .returned (.int .i64 (-1)) ∧ W = w' := fun W => by
      have hh := szTokenS_any a m cp (1048576 - (s.size : Int)) W (by unfold maxLen at hm; omega) (by omega) (by omega)
      rw [if_neg h] at hh
      exact hh
    go_enter Tryz.func5, Tryz.ntmps5
    go_wp2_with fail
    refine (szOut_ok s c _ _ (by omega) (by omega) (by omega)).mono ?_
    rintro e w1 ⟨rfl, hb1⟩
    go_wp2_with fail
    refine (hsz _).mono ?_
    rintro e w2 ⟨rfl, rfl⟩
    go_wp2_with fail
    go_ret
    exact ⟨rfl, bnext (bstart _ _) hb1⟩
  · have d : (1048576 : Int) < (s.size : Int) := by omega
    go_enter Tryz.func5, Tryz.ntmps5
    go_wp2_with fail
    refine (szOut_no s c _ _ hs (by omega) (by omega) d).mono ?_
    rintro e w1 ⟨rfl, hb1⟩
    go_wp2_with fail
    go_ret
    exact ⟨rfl, bnext (bstart _ _) hb1⟩
end Go.Proofs.YtbcnlggkoidmmaaGreatDoor

namespace Go.Proofs.YtbcnlggkoidmmaaGreatDoor
open Go.RowKit Go.Joins

theorem sl_of_num {w : World} {S : Nat} {a : Option Addr} {n c : Nat} {O : List Int} (h : NumRow w S (.slice a n c) O) (hn : n = O.length) : SL w S a n c (fun j => O.getD j 0) := by
  rcases Nat.eq_zero_or_pos n with h0 | h0
  · exact .inl h0
  · obtain ⟨g, _, ho⟩ := own_of_ownsRow h (by omega)
    obtain ⟨cap, e⟩ := ho.form
    obtain ⟨e1, e2, e3⟩ := Value.slice.inj e
    subst e1 e3
    have e4 : fints (fun j => O.getD j 0) n = ivals O := by
      refine List.ext_getElem? (fun i => ?_)
      rcases Nat.lt_or_ge i O.length with q | q
      · rw [ivals_get O i q, List.getElem?_eq_getElem (by rw [fints_length]; omega), fints_get]
      · rw [List.getElem?_eq_none (by rw [fints_length]; omega), List.getElem?_eq_none (by rw [ivals_length]; exact q)]
    refine .inr ⟨g, rfl, ?_⟩
    unfold IOwn
    rw [e4]
    exact ho

end Go.Proofs.YtbcnlggkoidmmaaGreatDoor

namespace Go.Proofs.YtbcnlggkoidmmaaGreatDoor
open Go.RowKit Go.Joins InfMath

/-- The first j lengths. -/
def firstJ (f : Nat → Int) (j : Nat) : List Int := (List.range j).map f
theorem firstJ_next (f : Nat → Int) (j : Nat) : firstJ f (j + 1) = firstJ f j ++ [f j] := by simp [firstJ, List.range_succ]
theorem firstJ_length (f : Nat → Int) (j : Nat) : (firstJ f j).length = j := by simp [firstJ]
theorem firstJ_getD (f : Nat → Int) {j i : Nat} (h : i < j) : (firstJ f j).getD i 0 = f i := by simp [firstJ, List.getD_eq_getElem?_getD, List.getElem?_map, List.getElem?_range h]
end Go.Proofs.YtbcnlggkoidmmaaGreatDoor

namespace Go.Proofs.YtbcnlggkoidmmaaGreatDoor
open Go.RowKit Go.Joins InfMath

theorem came_ivals {w : World} {a : Option Addr} {n : Nat} {f : Nat → Int} (h : Came w a n f) {ad : Addr} (ha : a = some ad) : ∀ j u, (ivals (firstJ f n))[j]? = some u → w.cell? (ad.add j) = some u := by
  intro j u hu
  have hj : j < n := by
    rcases Nat.lt_or_ge j n with k | k
    · exact k
    · rw [List.getElem?_eq_none (by rw [ivals_length, firstJ_length]; exact k)] at hu; cases hu
  rw [ivals_get _ j (by rw [firstJ_length]; exact hj), firstJ_getD f hj] at hu
  rcases h with q | ⟨g, off, e, hg, hc⟩
  · omega
  · rw [ha] at e
    obtain rfl := Option.some.inj e
    rw [Addr.add_lit, hc j hj]
    exact hu
theorem came_cat {W : World} {S : Nat} {a : Option Addr} {c n1 n2 : Nat} {f1 f2 : Nat → Int} (h : NumRow W S (.slice a (n1 + n2) c) (firstJ f1 n1 ++ firstJ f2 n2)) : Came W a (n1 + n2) (fun i => if i < n1 then f1 i else f2 (i - n1)) := by
  have hs := sl_of_num h (by rw [List.length_append, firstJ_length, firstJ_length])
  rcases hs with q | ⟨g, rfl, ho⟩
  · exact .inl q
  · refine (ho.congr fun i hi => ?_).sl.came
    by_cases q : i < n1
    · rw [if_pos q, List.getD_eq_getElem?_getD, List.getElem?_append_left (by rw [firstJ_length]; exact q), ← List.getD_eq_getElem?_getD, firstJ_getD f1 q]
    · rw [if_neg q, List.getD_eq_getElem?_getD, List.getElem?_append_right (by rw [firstJ_length]; omega), firstJ_length, ← List.getD_eq_getElem?_getD, firstJ_getD f2 (by omega)]
end Go.Proofs.YtbcnlggkoidmmaaGreatDoor

namespace Go.Proofs.YtbcnlggkoidmmaaGreatDoor
open Go.RowKit Go.Joins Go.Sort

/-- A slice of Runs that came in. -/
def DCame (w : World) (a : Option Addr) (n : Nat) (F : Nat → Int × Int) : Prop :=
  n = 0 ∨ ∃ g off, a = some ⟨g, off, none⟩ ∧ g < w.heap.size ∧ ∀ j, j < n → w.cell? ⟨g, off + j * 2, none⟩ = some (.int .i64 (F j).1) ∧ w.cell? ⟨g, off + j * 2 + 1, none⟩ = some (.int .i64 (F j).2)
theorem DCame.called {w w' : World} {a : Option Addr} {n : Nat} {F : Nat → Int × Int} (h : DCame w a n F) (hb : Below w.heap.size w w') : DCame w' a n F := by
  rcases h with h | ⟨g, off, ha, hg, hc⟩
  · exact .inl h
  · exact .inr ⟨g, off, ha, Nat.lt_of_lt_of_le hg hb.size, fun j hj => ⟨(hb.cell (p := ⟨g, off + j * 2, none⟩) hg).trans (hc j hj).1, (hb.cell (p := ⟨g, off + j * 2 + 1, none⟩) hg).trans (hc j hj).2⟩⟩
theorem DCame.grown {w w' : World} {a : Option Addr} {n B : Nat} {F : Nat → Int × Int} {row : Option Nat} (h : DCame w a n F) (hB : ∀ g off, a = some ⟨g, off, none⟩ → g < B) (hr : ∀ k, row = some k → B ≤ k) (hg : w.grownBy w' row) : DCame w' a n F := by
  rcases h with h | ⟨g, off, ha, hlt, hc⟩
  · exact .inl h
  · have hne : some g ≠ row := fun e => by have h1 := hB g off ha; have h2 := hr g e.symm; omega
    have hb := hg.block g hlt hne
    exact .inr ⟨g, off, ha, Nat.lt_of_lt_of_le hlt hg.size, fun j hj => ⟨(World.cell?_of_block (w := w) hb).trans (hc j hj).1, (World.cell?_of_block (w := w) hb).trans (hc j hj).2⟩⟩
/-- The slice at the head of block g is the call's own. -/
def DOwn (w : World) (base g n : Nat) (F : Nat → Int × Int) : Prop := base ≤ g ∧ ∃ cur, w.heap[g]? = some (.cells cur 95 (0, 0)) ∧ n * 2 ≤ cur.size ∧ ∀ j, j < n → cur[j * 2]? = some (.int .i64 (F j).1) ∧ cur[j * 2 + 1]? = some (.int .i64 (F j).2)
theorem DOwn.lt {w : World} {base g n : Nat} {F : Nat → Int × Int} (h : DOwn w base g n F) : g < w.heap.size := by
  obtain ⟨_, cur, h2, _⟩ := h
  exact block_lt h2
theorem DOwn.keep {w w' : World} {base g n : Nat} {F : Nat → Int × Int} (h : DOwn w base g n F) (hk : w'.heap[g]? = w.heap[g]?) : DOwn w' base g n F := by
  obtain ⟨h1, cur, h2, h3⟩ := h
  exact ⟨h1, cur, hk.trans h2, h3⟩
theorem DOwn.called {w w' : World} {base g n : Nat} {F : Nat → Int × Int} (h : DOwn w base g n F) (hb : Below w.heap.size w w') : DOwn w' base g n F := h.keep (hb.block g h.lt)
theorem DOwn.came {w : World} {base g n : Nat} {F : Nat → Int × Int} (h : DOwn w base g n F) : DCame w (some ⟨g, 0, none⟩) n F := by
  refine .inr ⟨g, 0, rfl, h.lt, fun j hj => ?_⟩
  obtain ⟨_, cur, h2, h3, h4⟩ := h
  rw [Nat.zero_add, cell_of_block h2, cell_of_block h2]
  exact h4 j hj
theorem DOwn.free {w : World} {base g n : Nat} {F : Nat → Int × Int} (h : DOwn w base g n F) (k : Nat) : w.frozen? ⟨g, k, none⟩ = false := by
  obtain ⟨_, cur, h2, _⟩ := h
  simp [World.frozen?, h2]
/-- F with x at the place j. -/
def updD (F : Nat → Int × Int) (j : Nat) (x : Int × Int) : Nat → Int × Int := fun i => if i = j then x else F i
theorem DOwn.set {w : World} {base g n : Nat} {F : Nat → Int × Int} (h : DOwn w base g n F) (j : Nat) (hj : j < n) (x y : Int) : DOwn ((w.setCell ⟨g, j * 2, none⟩ (.int .i64 x)).setCell ⟨g, j * 2 + 1, none⟩ (.int .i64 y)) base g n (updD F j (x, y)) := by
  obtain ⟨h1, cur, h2, h3, h4⟩ := h
  refine ⟨h1, (cur.setIfInBounds (j * 2) (.int .i64 x)).setIfInBounds (j * 2 + 1) (.int .i64 y), ?_, by simpa using h3, fun i hi => ?_⟩
  · simp [World.setCell, Array.getElem?_modify, h2]
  · obtain ⟨k1, k2⟩ := h4 i hi
    unfold updD
    by_cases e : i = j
    · subst e
      rw [if_pos rfl]
      refine ⟨?_, ?_⟩
      · rw [Array.getElem?_setIfInBounds_ne (by omega), Array.getElem?_setIfInBounds_self_of_lt (by omega)]
      · rw [Array.getElem?_setIfInBounds_self_of_lt (by simp; omega)]
    · rw [if_neg e]
      refine ⟨?_, ?_⟩
      · rw [Array.getElem?_setIfInBounds_ne (by omega), Array.getElem?_setIfInBounds_ne (by omega)]; exact k1
      · rw [Array.getElem?_setIfInBounds_ne (by omega), Array.getElem?_setIfInBounds_ne (by omega)]; exact k2
theorem DOwn.congr {w : World} {base g n : Nat} {F G : Nat → Int × Int} (h : DOwn w base g n F) (e : ∀ j, j < n → F j = G j) : DOwn w base g n G := by
  obtain ⟨h1, cur, h2, h3, h4⟩ := h
  exact ⟨h1, cur, h2, h3, fun j hj => by rw [← e j hj]; exact h4 j hj⟩
/-- A slice that was handed back. -/
def DSL (w : World) (base : Nat) (a : Option Addr) (n : Nat) (F : Nat → Int × Int) : Prop := n = 0 ∨ ∃ g, a = some ⟨g, 0, none⟩ ∧ DOwn w base g n F
theorem DSL.came {w : World} {base : Nat} {a : Option Addr} {n : Nat} {F : Nat → Int × Int} (h : DSL w base a n F) : DCame w a n F := by
  rcases h with h | ⟨g, rfl, h⟩
  · exact .inl h
  · exact h.came
theorem DSL.called {w w' : World} {base : Nat} {a : Option Addr} {n : Nat} {F : Nat → Int × Int} (h : DSL w base a n F) (hb : Below w.heap.size w w') : DSL w' base a n F := by
  rcases h with h | ⟨g, rfl, h⟩
  · exact .inl h
  · exact .inr ⟨g, rfl, h.called hb⟩
/-- What a call owns, by its places. -/
theorem dsl_of_own {w : World} {S n : Nat} {v : Value} {L : List (Int × Int)} (h : w.ownsRow S 95 2 v n (dcells L)) (hn : n = L.length) : ∃ a c, v = .slice a L.length c ∧ DSL w S a L.length (fun j => L.getD j (0, 0)) := by
  subst hn
  rcases h.2 with ⟨rfl, h0⟩ | ⟨g, cap, cur, rfl, hb, hg, hc, hm, hs, ht⟩
  · exact ⟨none, 0, by rw [h0], .inl h0⟩
  · refine ⟨_, cap, rfl, .inr ⟨g, rfl, hb, cur, hg, by omega, fun j hj => ?_⟩⟩
    have k1 := h.cellAt (j * 2) (by omega)
    have k2 := h.cellAt (j * 2 + 1) (by omega)
    rw [cell_of_block hg] at k1 k2
    rw [k1, k2]
    exact ⟨dcells_get0 L j hj, dcells_get1 L j hj⟩

theorem DOwn.grown {w w' : World} {base g n : Nat} {F : Nat → Int × Int} {row : Option Nat} (h : DOwn w base g n F) (hg : w.grownBy w' row) (hne : row ≠ some g) : DOwn w' base g n F := h.keep (hg.block g h.lt (Ne.symm hne))

end Go.Proofs.YtbcnlggkoidmmaaGreatDoor
