/-
  Slices of numbers that a call made itself, by what number stands where. Nothing here speaks of the program.
  How often each symbol of tokens is met (chapter 9). Nothing here speaks of the program.
  The symbols of tokens, in order: each by the first code or the second, with its extra bits. Nothing here speaks of the program.
  Parts of a block: numbers and codes, each in so many bits; the bits of a list of parts. Nothing here speaks of the program.
-/
import Derived.Test.YtbcnlggkoidmmaaRows
import Derived.Test.YtbcnlggkoidmmaaPk01
import Derived.Test.YtbcnlggkoidmmaaPk08
import Derived.Test.YtbcnlggkoidmmaaPk07
import Derived.Test.YtbcnlggkoidmmaaPk04
import Derived.WalkKit
import Derived.Below
import Derived.OpenShut
import Derived.Laws.MakeOwn
import Derived.Lib.SmallJoins
namespace Go.Proofs.Ytbcnlggkoidmmaa
open Go.RowKit Go.Joins

def fints (f : Nat → Int) (n : Nat) : List Value := (List.range n).map fun i => .int .i64 (f i)
/-- f with x at the place j. -/
def upd (f : Nat → Int) (j : Nat) (x : Int) : Nat → Int := fun i => if i = j then x else f i
theorem fints_length (f : Nat → Int) (n : Nat) : (fints f n).length = n := by simp [fints]
theorem fints_get (f : Nat → Int) (n j : Nat) (h : j < (fints f n).length) : (fints f n)[j] = .int .i64 (f j) := by simp [fints]
theorem fints_congr {f g : Nat → Int} {n : Nat} (h : ∀ i, i < n → f i = g i) : fints f n = fints g n := by
  unfold fints
  refine List.map_congr_left fun i hi => ?_
  rw [h i (List.mem_range.mp hi)]
theorem fints_set (f : Nat → Int) (n j : Nat) (x : Int) : (fints f n).set j (.int .i64 x) = fints (upd f j x) n := by
  refine List.ext_getElem (by simp [fints]) fun i h1 h2 => ?_
  rw [List.getElem_set, fints_get (upd f j x)]
  by_cases hij : j = i
  · subst hij
    rw [if_pos rfl]
    simp [upd]
  · have hji : ¬ i = j := fun h => hij h.symm
    rw [if_neg hij, fints_get]
    simp [upd, hji]
theorem fints_app (f : Nat → Int) (n : Nat) (x : Int) : fints f n ++ [.int .i64 x] = fints (upd f n x) (n + 1) := by
  unfold fints
  rw [List.range_succ, List.map_append]
  congr 1
  · refine List.map_congr_left fun i hi => ?_
    have := List.mem_range.mp hi
    unfold upd
    rw [if_neg (by omega)]
  · unfold upd
    simp

/-- The slice at the head of block g is the call's own and holds f 0, .., f (n - 1). -/
def IOwn (w : World) (base g n cap : Nat) (f : Nat → Int) : Prop := Own 3 w base g (.slice (some ⟨g, 0, none⟩) n cap) (fints f n)

section
variable {w w' : World} {base g n cap : Nat} {f : Nat → Int}
theorem IOwn.lt (h : IOwn w base g n cap f) : g < w.heap.size := Own.lt h
theorem IOwn.base_le (h : IOwn w base g n cap f) : base ≤ g := Own.base_le h
theorem IOwn.cell (h : IOwn w base g n cap f) (j : Nat) (hj : j < n) : w.cell? ⟨g, j, none⟩ = some (.int .i64 (f j)) := by
  have h' : j < (fints f n).length := by rw [fints_length]; exact hj
  rw [Own.cell h j h', fints_get]
theorem IOwn.free (h : IOwn w base g n cap f) (j : Nat) (hj : j < n) : w.frozen? ⟨g, j, none⟩ = false := Own.free h j (by rw [fints_length]; exact hj)
theorem IOwn.set (h : IOwn w base g n cap f) (j : Nat) (hj : j < n) (x : Int) : IOwn (w.setCell ⟨g, j, none⟩ (.int .i64 x)) base g n cap (upd f j x) := by
  have k := Own.set h j (by rw [fints_length]; exact hj) (.int .i64 x)
  rw [fints_set] at k
  exact k
theorem IOwn.congr {f' : Nat → Int} (h : IOwn w base g n cap f) (e : ∀ i, i < n → f i = f' i) : IOwn w base g n cap f' := by
  unfold IOwn at h ⊢
  rw [← fints_congr e]
  exact h
theorem IOwn.keep (h : IOwn w base g n cap f) (hk : w'.heap[g]? = w.heap[g]?) : IOwn w' base g n cap f := Own.keep h hk
theorem IOwn.alloc (h : IOwn w base g n cap f) (o : Obj) : IOwn (w.alloc o) base g n cap f := Own.alloc h o
theorem IOwn.drew (h : IOwn w base g n cap f) : IOwn w.drew base g n cap f := Own.drewN h 1
theorem IOwn.below {B : Nat} (h : IOwn w base g n cap f) (hb : Below B w w') (hg : g < B) : IOwn w' base g n cap f := Own.below h hb hg
/-- Behind a call that turned nothing old. -/
theorem IOwn.called (h : IOwn w base g n cap f) (hb : Below w.heap.size w w') : IOwn w' base g n cap f := Own.below h hb h.lt
theorem IOwn.mono {b : Nat} (h : IOwn w base g n cap f) (hb : b ≤ base) : IOwn w b g n cap f := Own.mono h hb
theorem IOwn.grown {row : Option Nat} (h : IOwn w base g n cap f) (hg : w.grownBy w' row) (hne : row ≠ some g) : IOwn w' base g n cap f := h.keep (hg.block g h.lt (Ne.symm hne))

theorem made_ints (n : Nat) : (madeCells #[Value.int .i64 0] n).toList = fints (fun _ => 0) n := by
  unfold madeCells fints
  rw [Array.toList_map, Array.toList_range]
  refine List.map_congr_left fun i _ => ?_
  simp [Nat.mod_one]

/-- 'make([]int, n)'. -/
theorem IOwn.made (w : World) (n : Nat) (hn : n ≤ maxLen) (hb : base ≤ w.heap.size) : IOwn (w.alloc (.cells (madeCells #[Value.int .i64 0] n) 3)) base w.heap.size n n (fun _ => 0) := by
  refine ⟨n, madeCells #[Value.int .i64 0] n, (0, 0), by rw [fints_length], hb, heap_alloc_new w _, .inl rfl, by rw [fints_length]; exact Nat.le_refl _, hn, by simp [madeCells], ?_⟩
  rw [made_ints, fints_length, List.take_of_length_le (by rw [fints_length]; exact Nat.le_refl _)]
end

/-- A slice of numbers that came in: it is empty, or its numbers lie from place 'off' of an old block on. -/
def Came (w : World) (a : Option Addr) (n : Nat) (f : Nat → Int) : Prop :=
  n = 0 ∨ ∃ g off, a = some ⟨g, off, none⟩ ∧ g < w.heap.size ∧ ∀ j, j < n → w.cell? ⟨g, off + j, none⟩ = some (.int .i64 (f j))
theorem Came.called {w w' : World} {a : Option Addr} {n : Nat} {f : Nat → Int} (h : Came w a n f) (hb : Below w.heap.size w w') : Came w' a n f := by
  rcases h with h | ⟨g, off, ha, hg, hc⟩
  · exact .inl h
  · exact .inr ⟨g, off, ha, Nat.lt_of_lt_of_le hg hb.size, fun j hj => (hb.cell (p := ⟨g, off + j, none⟩) hg).trans (hc j hj)⟩

/-- A slice that was handed back: it is empty, or the maker's own. -/
def SL (w : World) (base : Nat) (a : Option Addr) (n cap : Nat) (f : Nat → Int) : Prop := n = 0 ∨ ∃ g, a = some ⟨g, 0, none⟩ ∧ IOwn w base g n cap f
theorem SL.came {w : World} {base : Nat} {a : Option Addr} {n cap : Nat} {f : Nat → Int} (h : SL w base a n cap f) : Came w a n f := by
  rcases h with h | ⟨g, rfl, h⟩
  · exact .inl h
  · exact .inr ⟨g, 0, rfl, h.lt, fun j hj => by rw [Nat.zero_add]; exact h.cell j hj⟩
theorem SL.called {w w' : World} {base : Nat} {a : Option Addr} {n cap : Nat} {f : Nat → Int} (h : SL w base a n cap f) (hb : Below w.heap.size w w') : SL w' base a n cap f := by
  rcases h with h | ⟨g, rfl, h⟩
  · exact .inl h
  · exact .inr ⟨g, rfl, h.called hb⟩
theorem IOwn.sl {w : World} {base g n cap : Nat} {f : Nat → Int} (h : IOwn w base g n cap f) : SL w base (some ⟨g, 0, none⟩) n cap f := .inr ⟨g, rfl, h⟩
/-- An old slice behind what turned one new block. -/
theorem Came.grown {w w' : World} {a : Option Addr} {n B : Nat} {f : Nat → Int} {row : Option Nat} (h : Came w a n f) (hB : ∀ g off, a = some ⟨g, off, none⟩ → g < B) (hr : ∀ k, row = some k → B ≤ k) (hg : w.grownBy w' row) : Came w' a n f := by
  rcases h with h | ⟨g, off, ha, hlt, hc⟩
  · exact .inl h
  · refine .inr ⟨g, off, ha, Nat.lt_of_lt_of_le hlt hg.size, fun j hj => ?_⟩
    have hne : some g ≠ row := fun e => by have h1 := hB g off ha; have h2 := hr g e.symm; omega
    have hb := hg.block g hlt hne
    rw [← hc j hj]
    unfold World.cell?
    rw [hb]

/-- A row that came in, by its numbers. -/
theorem came_of_row {w : World} {a : Option Addr} {len cap : Nat} {zs : List Int} (h : IsRow .i64 w a len cap zs) : Came w a len (fun j => zs.getD j 0) ∧ len ≤ maxLen ∧ ∀ i, i < len → (Lit.int .i64 (zs.getD i 0)).wf = true := by
  rcases h with ⟨_, rfl, rfl, _⟩ | ⟨x, rfl, hl, hm, hz, hc, hw⟩
  · exact ⟨.inl rfl, Nat.zero_le _, fun i hi => absurd hi (Nat.not_lt_zero i)⟩
  · refine ⟨?_, by omega, fun i hi => hw _ ?_⟩
    · rcases Nat.eq_zero_or_pos len with h0 | h0
      · exact .inl h0
      · obtain ⟨b, off, spot⟩ := x
        have h1 := hc 0 (by omega)
        have hspot : spot = none := by simpa [Addr.add] using World.cell?_spot h1
        subst hspot
        have hadd : ∀ j, (⟨b, off, none⟩ : Addr).add j = ⟨b, off + j, none⟩ := fun j => Addr.add_lit _ _ _
        refine .inr ⟨b, off, rfl, ?_, fun j hj => ?_⟩
        · rw [hadd] at h1
          exact World.block_lt_of_cell? w _ h1
        · have h2 := hc j (by omega)
          rw [hadd] at h2
          exact h2
    · rw [List.getD_eq_getElem?_getD, List.getElem?_eq_getElem (by omega)]
      exact List.getElem_mem _

end Go.Proofs.Ytbcnlggkoidmmaa

namespace Go.Proofs.Ytbcnlggkoidmmaa
namespace TokLenMath
open TokMath StepMath

/-- A token's symbol of the first code, and, of a token that repeats, of the second. -/
def sym1 (t : Tok) : Nat := if t.2.1 = 0 then t.1.toNat else (LengthCodeOf t.2.1).1.toNat
def sym2 (t : Tok) : Nat := (DistCodeOf t.2.2).1.toNat
/-- How often each symbol is met; the end of the block once. -/
def cntA (L : List Tok) (i : Nat) : Int := (if i = 256 then 1 else 0) + ((L.filter fun t => decide (sym1 t = i)).length : Int)
def cntB (L : List Tok) (i : Nat) : Int := ((L.filter fun t => decide (t.2.1 ≠ 0 ∧ sym2 t = i)).length : Int)
theorem cntA_snoc (L : List Tok) (t : Tok) (i : Nat) : upd (cntA L) (sym1 t) (cntA L (sym1 t) + 1) i = cntA (L ++ [t]) i := by
  unfold upd cntA
  rw [List.filter_append, List.length_append]
  by_cases h : i = sym1 t
  · subst h
    rw [if_pos rfl]
    simp
    omega
  · rw [if_neg h]
    have : ¬ sym1 t = i := fun e => h e.symm
    simp [this]
theorem cntB_snoc (L : List Tok) (t : Tok) (ht : t.2.1 ≠ 0) (i : Nat) : upd (cntB L) (sym2 t) (cntB L (sym2 t) + 1) i = cntB (L ++ [t]) i := by
  unfold upd cntB
  rw [List.filter_append, List.length_append]
  by_cases h : i = sym2 t
  · subst h
    rw [if_pos rfl]
    simp [ht]
  · rw [if_neg h]
    have : ¬ sym2 t = i := fun e => h e.symm
    simp [this]
theorem cntB_byte (L : List Tok) (t : Tok) (ht : t.2.1 = 0) (i : Nat) : cntB L i = cntB (L ++ [t]) i := by
  unfold cntB
  rw [List.filter_append, List.length_append]
  simp [ht]
theorem sym1_byte {x z : Int} : sym1 (x, 0, z) = x.toNat := if_pos rfl
theorem sym1_rep {x y z : Int} (h : y ≠ 0) : sym1 (x, y, z) = (LengthCodeOf y).1.toNat := if_neg h
theorem len_range {y : Int} (h : 3 ≤ y ∧ y ≤ 258) : 257 ≤ (LengthCodeOf y).1 ∧ (LengthCodeOf y).1 ≤ 285 := by
  unfold LengthCodeOf
  rw [if_pos h]
  unfold lenCode
  split
  · have := (len_fact (n := y.toNat) (by omega) (by omega)).1
    simp only []
    omega
  · simp only []
    omega
theorem dist_range {z : Int} (h : 1 ≤ z ∧ z ≤ 32768) : 0 ≤ (DistCodeOf z).1 ∧ (DistCodeOf z).1 ≤ 29 := by
  unfold DistCodeOf
  rw [if_pos h]
  unfold distCode
  have := (dist_fact (n := z.toNat) (by omega) (by omega)).1
  simp only []
  omega
theorem sym1_lt {t : Tok} (h : TokRight t) : sym1 t < 286 ∧ sym1 t ≠ 256 := by
  obtain ⟨x, y, z⟩ := t
  unfold TokRight at h
  by_cases e : y = 0
  · subst e
    rw [if_pos rfl] at h
    rw [sym1_byte]
    simp only [] at h
    omega
  · rw [if_neg e] at h
    rw [sym1_rep e]
    have := len_range (y := y) h.2.1
    omega
theorem cnt_le (L : List Tok) (p : Tok → Bool) : (L.filter p).length ≤ L.length := List.length_filter_le p L
/-- Counts that may be limited: each is at most the number of the tokens, but for the end of the block. -/
theorem cntA_le {L : List Tok} (h : ∀ t ∈ L, TokRight t) (hL : L.length ≤ 12000) (i : Nat) : 0 ≤ cntA L i ∧ cntA L i ≤ 12000 := by
  unfold cntA
  by_cases e : i = 256
  · have h0 : (L.filter fun t => decide (sym1 t = i)) = [] := List.filter_eq_nil_iff.mpr fun t ht => by
      have := (sym1_lt (h t ht)).2
      simp only [decide_eq_true_eq]
      omega
    rw [h0, if_pos e]
    simp
  · rw [if_neg e]
    have := cnt_le L (fun t => decide (sym1 t = i))
    omega
theorem cntB_le {L : List Tok} (hL : L.length ≤ 12000) (i : Nat) : 0 ≤ cntB L i ∧ cntB L i ≤ 12000 := by
  unfold cntB
  have := cnt_le L (fun t => decide (t.2.1 ≠ 0 ∧ sym2 t = i))
  omega
end TokLenMath
end Go.Proofs.Ytbcnlggkoidmmaa

namespace Go.Proofs.Ytbcnlggkoidmmaa
namespace TellMath
open TokMath StepMath

/-- A symbol, how many extra bits it has, and these. -/
abbrev Cod := Int × Int × Int
def symsT (t : Tok) : List (Bool × Cod) := if t.2.1 = 0 then [(false, (t.1, 0, 0))] else [(false, LengthCodeOf t.2.1), (true, DistCodeOf t.2.2)]
def symsL (L : List Tok) : List (Bool × Cod) := L.flatMap symsT
theorem symsT_byte (x z : Int) : symsT (x, 0, z) = [(false, (x, 0, 0))] := if_pos rfl
theorem symsT_rep (x : Int) {y : Int} (z : Int) (h : y ≠ 0) : symsT (x, y, z) = [(false, LengthCodeOf y), (true, DistCodeOf z)] := if_neg h
theorem symsL_snoc {L : List Tok} {j : Nat} (h : j < L.length) : symsL (L.take (j + 1)) = symsL (L.take j) ++ symsT (L.getD j (0, 0, 0)) := by
  unfold symsL
  rw [List.take_add_one, List.getElem?_eq_getElem h, List.flatMap_append, List.getD_eq_getElem?_getD, List.getElem?_eq_getElem h]
  simp
theorem symsT_length (t : Tok) : (symsT t).length ≤ 2 := by
  unfold symsT
  split <;> simp
theorem symsL_length : ∀ L : List Tok, (symsL L).length ≤ 2 * L.length
  | [] => Nat.le_refl _
  | t :: L => by
    have h1 := symsL_length L
    have h2 := symsT_length t
    show (symsT t ++ symsL L).length ≤ _
    rw [List.length_append, List.length_cons]
    omega
theorem symsL_app (a b : List Tok) : symsL (a ++ b) = symsL a ++ symsL b := List.flatMap_append
theorem mem_symsL {L : List Tok} {t : Tok} {x : Bool × Cod} (ht : t ∈ L) (hx : x ∈ symsT t) : x ∈ symsL L := List.mem_flatMap.mpr ⟨t, ht, hx⟩
end TellMath
end Go.Proofs.Ytbcnlggkoidmmaa

namespace Go.Proofs.Ytbcnlggkoidmmaa
namespace PartMath
open OutMath PutMath BlockMath

/-- A part: its number, in how many bits, whether the highest one comes first. -/
abbrev Part := Int × Nat × Bool
def bitsP (p : Part) : List Int := pieceBits p.1 p.2.1 p.2.2
/-- The bits of parts, in order. -/
def partBits : List Part → List Int
  | [] => []
  | p :: l => bitsP p ++ partBits l
theorem partBits_app : ∀ a b : List Part, partBits (a ++ b) = partBits a ++ partBits b
  | [], _ => rfl
  | p :: l, b => by
    show bitsP p ++ partBits (l ++ b) = (bitsP p ++ partBits l) ++ partBits b
    rw [partBits_app l b, List.append_assoc]
theorem bits01_nil : Bits01 [] := fun i => by simp
theorem partBits_01 : ∀ l : List Part, Bits01 (partBits l)
  | [] => bits01_nil
  | _ :: l => (pieceBits_01 _ _ _).append (partBits_01 l)
theorem bitsP_length (p : Part) : (bitsP p).length = p.2.1 := pieceBits_length _ _ _
/-- A part that can be put. -/
def Right (p : Part) : Prop := 0 ≤ p.1 ∧ p.1 ≤ 16777216 ∧ p.2.1 ≤ 24
theorem partBits_le : ∀ l : List Part, (∀ p ∈ l, Right p) → (partBits l).length ≤ 24 * l.length
  | [], _ => Nat.le_refl _
  | p :: l, h => by
    have h1 := partBits_le l fun q hq => h q (List.mem_cons_of_mem _ hq)
    have h2 := (h p (List.mem_cons_self ..)).2.2
    show (bitsP p ++ partBits l).length ≤ _
    rw [List.length_append, bitsP_length, List.length_cons]
    omega
theorem partBits_take {l : List Part} {j : Nat} (h : j < l.length) : partBits (l.take (j + 1)) = partBits (l.take j) ++ bitsP (l.getD j (0, 0, false)) := by
  rw [List.take_add_one, List.getElem?_eq_getElem h, partBits_app, List.getD_eq_getElem?_getD, List.getElem?_eq_getElem h]
  show _ ++ (bitsP _ ++ []) = _
  rw [List.append_nil]
  rfl
/-- The first parts have no more bits than all. -/
theorem partBits_take_le : ∀ (l : List Part) (j : Nat), (partBits (l.take j)).length ≤ (partBits l).length
  | [], _ => by simp
  | _ :: _, 0 => Nat.zero_le _
  | p :: l, j + 1 => by
    show (bitsP p ++ partBits (l.take j)).length ≤ (bitsP p ++ partBits l).length
    have := partBits_take_le l j
    rw [List.length_append, List.length_append]
    omega
theorem putB_nil (xs : List Int) (c : Nat) : putB xs c [] = xs := rfl
/-- A part of no bits tells nothing. -/
theorem bitsP_none (x : Int) (h : Bool) : bitsP (x, 0, h) = [] := rfl
end PartMath
end Go.Proofs.Ytbcnlggkoidmmaa
