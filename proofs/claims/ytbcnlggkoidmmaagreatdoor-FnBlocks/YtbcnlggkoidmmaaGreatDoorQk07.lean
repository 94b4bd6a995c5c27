/-
  Slices of numbers that a call made itself, by what number stands where. Nothing here speaks of the program.
  How often each symbol of tokens is met (chapter 9). Nothing here speaks of the program.
  The symbols of tokens, in order: each by the first code or the second, with its extra bits. Nothing here speaks of the program.
  Parts of a block: numbers and codes, each in so many bits; the bits of a list of parts. Nothing here speaks of the program.
  The parts of a block's body: each symbol's code and extra bits, as the model gathers them and as the program does. Nothing here speaks of the program.
  What a block of type 1 is to be. Nothing here speaks of the program.
-/
import Derived.Test.YtbcnlggkoidmmaaGreatDoorRows
import Derived.Test.YtbcnlggkoidmmaaGreatDoorQk01
import Derived.Test.YtbcnlggkoidmmaaGreatDoorQk02
import Derived.Test.YtbcnlggkoidmmaaGreatDoorQk06
import Derived.Test.YtbcnlggkoidmmaaGreatDoorQk05
import Derived.WalkKit
import Derived.Below
import Derived.OpenShut
import Derived.Laws.MakeOwn
import Derived.Lib.SmallJoins
namespace Go.Proofs.YtbcnlggkoidmmaaGreatDoor
open Go.RowKit Go.Joins

def fints (f : Nat → Int) (n : Nat) : List Value := (List.range n).map fun i => .int .i64 (f i)
/-- f with x at the place j. -/
def upd (f : Nat → Int) (j : Nat) (x : Int) : Nat → Int := fun i => if i = j then x else f i
theorem fints_length (f : Nat → Int) (n : Nat) : (fints f n).length = n := by simp [fints]
theorem fints_get (f : Nat → Int) (n j : Nat) (h : j < (fints f n).length) : (fints f n)[j] = .int .i64 (f j) := by simp [fints]
theorem fints_congr {f g : Nat → Int} {n : Nat} (h : ∀ i, i < n → f i = g i) : fints f n = fints g n := by
  unfold fints
  refine List.map_congr_left fun i hi => ?_
  rw [h i (List.mem_range.mp hi)]
theorem fints_set (f : Nat → Int) (n j : Nat) (x : Int) : (fints f n).set j (.int .i64 x) = fints (upd f j x) n := by
  refine List.ext_getElem (by simp [fints]) fun i h1 h2 => ?_
  rw [List.getElem_set, fints_get (upd f j x)]
  by_cases hij : j = i
  · subst hij
    rw [if_pos rfl]
    simp [upd]
  · have hji : ¬ i = j := fun h => hij h.symm
    rw [if_neg hij, fints_get]
    simp [upd, hji]
/-- The slice at the head of block g is the call's own and holds f 0, .., f (n - 1). -/
def IOwn (w : World) (base g n cap : Nat) (f : Nat → Int) : Prop := Own 3 w base g (.slice (some ⟨g, 0, none⟩) n cap) (fints f n)

section
variable {w w' : World} {base g n cap : Nat} {f : Nat → Int}
theorem IOwn.lt (h : IOwn w base g n cap f) : g < w.heap.size := Own.lt h
theorem IOwn.base_le (h : IOwn w base g n cap f) : base ≤ g := Own.base_le h
theorem IOwn.cell (h : IOwn w base g n cap f) (j : Nat) (hj : j < n) : w.cell? ⟨g, j, none⟩ = some (.int .i64 (f j)) := by
  have h' : j < (fints f n).length := by rw [fints_length]; exact hj
  rw [Own.cell h j h', fints_get]
theorem IOwn.free (h : IOwn w base g n cap f) (j : Nat) (hj : j < n) : w.frozen? ⟨g, j, none⟩ = false := Own.free h j (by rw [fints_length]; exact hj)
theorem IOwn.set (h : IOwn w base g n cap f) (j : Nat) (hj : j < n) (x : Int) : IOwn (w.setCell ⟨g, j, none⟩ (.int .i64 x)) base g n cap (upd f j x) := by
  have k := Own.set h j (by rw [fints_length]; exact hj) (.int .i64 x)
  rw [fints_set] at k
  exact k
theorem IOwn.congr {f' : Nat → Int} (h : IOwn w base g n cap f) (e : ∀ i, i < n → f i = f' i) : IOwn w base g n cap f' := by
  unfold IOwn at h ⊢
  rw [← fints_congr e]
  exact h
theorem IOwn.keep (h : IOwn w base g n cap f) (hk : w'.heap[g]? = w.heap[g]?) : IOwn w' base g n cap f := Own.keep h hk
theorem IOwn.alloc (h : IOwn w base g n cap f) (o : Obj) : IOwn (w.alloc o) base g n cap f := Own.alloc h o
theorem IOwn.drew (h : IOwn w base g n cap f) : IOwn w.drew base g n cap f := Own.drewN h 1
theorem IOwn.below {B : Nat} (h : IOwn w base g n cap f) (hb : Below B w w') (hg : g < B) : IOwn w' base g n cap f := Own.below h hb hg
/-- Behind a call that turned nothing old. -/
theorem IOwn.called (h : IOwn w base g n cap f) (hb : Below w.heap.size w w') : IOwn w' base g n cap f := Own.below h hb h.lt
theorem IOwn.mono {b : Nat} (h : IOwn w base g n cap f) (hb : b ≤ base) : IOwn w b g n cap f := Own.mono h hb
theorem IOwn.grown {row : Option Nat} (h : IOwn w base g n cap f) (hg : w.grownBy w' row) (hne : row ≠ some g) : IOwn w' base g n cap f := h.keep (hg.block g h.lt (Ne.symm hne))

theorem made_ints (n : Nat) : (madeCells #[Value.int .i64 0] n).toList = fints (fun _ => 0) n := by
  unfold madeCells fints
  rw [Array.toList_map, Array.toList_range]
  refine List.map_congr_left fun i _ => ?_
  simp [Nat.mod_one]

/-- 'make([]int, n)'. -/
theorem IOwn.made (w : World) (n : Nat) (hn : n ≤ maxLen) (hb : base ≤ w.heap.size) : IOwn (w.alloc (.cells (madeCells #[Value.int .i64 0] n) 3)) base w.heap.size n n (fun _ => 0) := by
  refine ⟨n, madeCells #[Value.int .i64 0] n, (0, 0), by rw [fints_length], hb, heap_alloc_new w _, .inl rfl, by rw [fints_length]; exact Nat.le_refl _, hn, by simp [madeCells], ?_⟩
  rw [made_ints, fints_length, List.take_of_length_le (by rw [fints_length]; exact Nat.le_refl _)]
end

/-- A slice of numbers that came in: it is empty, or its numbers lie from place 'off' of an old block on. -/
def Came (w : World) (a : Option Addr) (n : Nat) (f : Nat → Int) : Prop :=
  n = 0 ∨ ∃ g off, a = some ⟨g, off, none⟩ ∧ g < w.heap.size ∧ ∀ j, j < n → w.cell? ⟨g, off + j, none⟩ = some (.int .i64 (f j))
theorem Came.called {w w' : World} {a : Option Addr} {n : Nat} {f : Nat → Int} (h : Came w a n f) (hb : Below w.heap.size w w') : Came w' a n f := by
  rcases h with h | ⟨g, off, ha, hg, hc⟩
  · exact .inl h
  · exact .inr ⟨g, off, ha, Nat.lt_of_lt_of_le hg hb.size, fun j hj => (hb.cell (p := ⟨g, off + j, none⟩) hg).trans (hc j hj)⟩

/-- A slice that was handed back: it is empty, or the maker's own. -/
def SL (w : World) (base : Nat) (a : Option Addr) (n cap : Nat) (f : Nat → Int) : Prop := n = 0 ∨ ∃ g, a = some ⟨g, 0, none⟩ ∧ IOwn w base g n cap f
theorem SL.came {w : World} {base : Nat} {a : Option Addr} {n cap : Nat} {f : Nat → Int} (h : SL w base a n cap f) : Came w a n f := by
  rcases h with h | ⟨g, rfl, h⟩
  · exact .inl h
  · exact .inr ⟨g, 0, rfl, h.lt, fun j hj => by rw [Nat.zero_add]; exact h.cell j hj⟩
theorem SL.called {w w' : World} {base : Nat} {a : Option Addr} {n cap : Nat} {f : Nat → Int} (h : SL w base a n cap f) (hb : Below w.heap.size w w') : SL w' base a n cap f := by
  rcases h with h | ⟨g, rfl, h⟩
  · exact .inl h
  · exact .inr ⟨g, rfl, h.called hb⟩
theorem IOwn.sl {w : World} {base g n cap : Nat} {f : Nat → Int} (h : IOwn w base g n cap f) : SL w base (some ⟨g, 0, none⟩) n cap f := .inr ⟨g, rfl, h⟩
/-- An old slice behind what turned one new block. -/
theorem Came.grown {w w' : World} {a : Option Addr} {n B : Nat} {f : Nat → Int} {row : Option Nat} (h : Came w a n f) (hB : ∀ g off, a = some ⟨g, off, none⟩ → g < B) (hr : ∀ k, row = some k → B ≤ k) (hg : w.grownBy w' row) : Came w' a n f := by
  rcases h with h | ⟨g, off, ha, hlt, hc⟩
  · exact .inl h
  · refine .inr ⟨g, off, ha, Nat.lt_of_lt_of_le hlt hg.size, fun j hj => ?_⟩
    have hne : some g ≠ row := fun e => by have h1 := hB g off ha; have h2 := hr g e.symm; omega
    have hb := hg.block g hlt hne
    rw [← hc j hj]
    unfold World.cell?
    rw [hb]

end Go.Proofs.YtbcnlggkoidmmaaGreatDoor

namespace Go.Proofs.YtbcnlggkoidmmaaGreatDoor
namespace TokLenMath
open TokMath StepMath

/-- A token's symbol of the first code, and, of a token that repeats, of the second. -/
def sym1 (t : Tok) : Nat := if t.2.1 = 0 then t.1.toNat else (LengthCodeOf t.2.1).1.toNat
def sym2 (t : Tok) : Nat := (DistCodeOf t.2.2).1.toNat
/-- How often each symbol is met; the end of the block once. -/
def cntA (L : List Tok) (i : Nat) : Int := (if i = 256 then 1 else 0) + ((L.filter fun t => decide (sym1 t = i)).length : Int)
def cntB (L : List Tok) (i : Nat) : Int := ((L.filter fun t => decide (t.2.1 ≠ 0 ∧ sym2 t = i)).length : Int)
theorem sym1_byte {x z : Int} : sym1 (x, 0, z) = x.toNat := if_pos rfl
theorem sym1_rep {x y z : Int} (h : y ≠ 0) : sym1 (x, y, z) = (LengthCodeOf y).1.toNat := if_neg h
theorem len_range {y : Int} (h : 3 ≤ y ∧ y ≤ 258) : 257 ≤ (LengthCodeOf y).1 ∧ (LengthCodeOf y).1 ≤ 285 := by
  unfold LengthCodeOf
  rw [if_pos h]
  unfold lenCode
  split
  · have := (len_fact (n := y.toNat) (by omega) (by omega)).1
    simp only []
    omega
  · simp only []
    omega
theorem dist_range {z : Int} (h : 1 ≤ z ∧ z ≤ 32768) : 0 ≤ (DistCodeOf z).1 ∧ (DistCodeOf z).1 ≤ 29 := by
  unfold DistCodeOf
  rw [if_pos h]
  unfold distCode
  have := (dist_fact (n := z.toNat) (by omega) (by omega)).1
  simp only []
  omega
theorem sym1_lt {t : Tok} (h : TokRight t) : sym1 t < 286 ∧ sym1 t ≠ 256 := by
  obtain ⟨x, y, z⟩ := t
  unfold TokRight at h
  by_cases e : y = 0
  · subst e
    rw [if_pos rfl] at h
    rw [sym1_byte]
    simp only [] at h
    omega
  · rw [if_neg e] at h
    rw [sym1_rep e]
    have := len_range (y := y) h.2.1
    omega
theorem cnt_le (L : List Tok) (p : Tok → Bool) : (L.filter p).length ≤ L.length := List.length_filter_le p L
/-- Counts that may be limited: each is at most the number of the tokens, but for the end of the block. -/
theorem cntA_le {L : List Tok} (h : ∀ t ∈ L, TokRight t) (hL : L.length ≤ 12000) (i : Nat) : 0 ≤ cntA L i ∧ cntA L i ≤ 12000 := by
  unfold cntA
  by_cases e : i = 256
  · have h0 : (L.filter fun t => decide (sym1 t = i)) = [] := List.filter_eq_nil_iff.mpr fun t ht => by
      have := (sym1_lt (h t ht)).2
      simp only [decide_eq_true_eq]
      omega
    rw [h0, if_pos e]
    simp
  · rw [if_neg e]
    have := cnt_le L (fun t => decide (sym1 t = i))
    omega
theorem cntB_le {L : List Tok} (hL : L.length ≤ 12000) (i : Nat) : 0 ≤ cntB L i ∧ cntB L i ≤ 12000 := by
  unfold cntB
  have := cnt_le L (fun t => decide (t.2.1 ≠ 0 ∧ sym2 t = i))
  omega
end TokLenMath
end Go.Proofs.YtbcnlggkoidmmaaGreatDoor

namespace Go.Proofs.YtbcnlggkoidmmaaGreatDoor
namespace TellMath
open TokMath StepMath

/-- A symbol, how many extra bits it has, and these. -/
abbrev Cod := Int × Int × Int
def symsT (t : Tok) : List (Bool × Cod) := if t.2.1 = 0 then [(false, (t.1, 0, 0))] else [(false, LengthCodeOf t.2.1), (true, DistCodeOf t.2.2)]
def symsL (L : List Tok) : List (Bool × Cod) := L.flatMap symsT
theorem symsT_byte (x z : Int) : symsT (x, 0, z) = [(false, (x, 0, 0))] := if_pos rfl
theorem symsT_rep (x : Int) {y : Int} (z : Int) (h : y ≠ 0) : symsT (x, y, z) = [(false, LengthCodeOf y), (true, DistCodeOf z)] := if_neg h
theorem symsL_snoc {L : List Tok} {j : Nat} (h : j < L.length) : symsL (L.take (j + 1)) = symsL (L.take j) ++ symsT (L.getD j (0, 0, 0)) := by
  unfold symsL
  rw [List.take_add_one, List.getElem?_eq_getElem h, List.flatMap_append, List.getD_eq_getElem?_getD, List.getElem?_eq_getElem h]
  simp
theorem symsT_length (t : Tok) : (symsT t).length ≤ 2 := by
  unfold symsT
  split <;> simp
theorem symsL_length : ∀ L : List Tok, (symsL L).length ≤ 2 * L.length
  | [] => Nat.le_refl _
  | t :: L => by
    have h1 := symsL_length L
    have h2 := symsT_length t
    show (symsT t ++ symsL L).length ≤ _
    rw [List.length_append, List.length_cons]
    omega
end TellMath
end Go.Proofs.YtbcnlggkoidmmaaGreatDoor

namespace Go.Proofs.YtbcnlggkoidmmaaGreatDoor
namespace PartMath
open OutMath PutMath BlockMath

/-- A part: its number, in how many bits, whether the highest one comes first. -/
abbrev Part := Int × Nat × Bool
def bitsP (p : Part) : List Int := pieceBits p.1 p.2.1 p.2.2
/-- The bits of parts, in order. -/
def partBits : List Part → List Int
  | [] => []
  | p :: l => bitsP p ++ partBits l
theorem partBits_app : ∀ a b : List Part, partBits (a ++ b) = partBits a ++ partBits b
  | [], _ => rfl
  | p :: l, b => by
    show bitsP p ++ partBits (l ++ b) = (bitsP p ++ partBits l) ++ partBits b
    rw [partBits_app l b, List.append_assoc]
theorem bits01_nil : Bits01 [] := fun i => by simp
theorem partBits_01 : ∀ l : List Part, Bits01 (partBits l)
  | [] => bits01_nil
  | _ :: l => (pieceBits_01 _ _ _).append (partBits_01 l)
theorem bitsP_length (p : Part) : (bitsP p).length = p.2.1 := pieceBits_length _ _ _
/-- A part that can be put. -/
def Right (p : Part) : Prop := 0 ≤ p.1 ∧ p.1 ≤ 16777216 ∧ p.2.1 ≤ 24
theorem partBits_le : ∀ l : List Part, (∀ p ∈ l, Right p) → (partBits l).length ≤ 24 * l.length
  | [], _ => Nat.le_refl _
  | p :: l, h => by
    have h1 := partBits_le l fun q hq => h q (List.mem_cons_of_mem _ hq)
    have h2 := (h p (List.mem_cons_self ..)).2.2
    show (bitsP p ++ partBits l).length ≤ _
    rw [List.length_append, bitsP_length, List.length_cons]
    omega
theorem partBits_take {l : List Part} {j : Nat} (h : j < l.length) : partBits (l.take (j + 1)) = partBits (l.take j) ++ bitsP (l.getD j (0, 0, false)) := by
  rw [List.take_add_one, List.getElem?_eq_getElem h, partBits_app, List.getD_eq_getElem?_getD, List.getElem?_eq_getElem h]
  show _ ++ (bitsP _ ++ []) = _
  rw [List.append_nil]
  rfl
/-- The first parts have no more bits than all. -/
theorem partBits_take_le : ∀ (l : List Part) (j : Nat), (partBits (l.take j)).length ≤ (partBits l).length
  | [], _ => by simp
  | _ :: _, 0 => Nat.zero_le _
  | p :: l, j + 1 => by
    show (bitsP p ++ partBits (l.take j)).length ≤ (bitsP p ++ partBits l).length
    have := partBits_take_le l j
    rw [List.length_append, List.length_append]
    omega
theorem putB_nil (xs : List Int) (c : Nat) : putB xs c [] = xs := rfl
/-- A part of no bits tells nothing. -/
theorem bitsP_none (x : Int) (h : Bool) : bitsP (x, 0, h) = [] := rfl
end PartMath
end Go.Proofs.YtbcnlggkoidmmaaGreatDoor

namespace Go.Proofs.YtbcnlggkoidmmaaGreatDoor
namespace BodyMath
open OutMath TokMath StepMath CodeMath HitMath TokLenMath TellMath BlockMath PartMath

section
variable (f1 : Nat → Int) (n1 : Nat) (f2 : Nat → Int) (n2 : Nat)
/-- A symbol's code. -/
def codeP (f : Nat → Int) (n i : Nat) : Part := (codeOf f n i, (f i).toNat, true)
/-- A symbol's code and its extra bits. -/
def symP (x : Bool × Cod) : List Part := [if x.1 = true then codeP f2 n2 x.2.1.toNat else codeP f1 n1 x.2.1.toNat, (x.2.2.2, x.2.2.1.toNat, false)]
def symsP (S : List (Bool × Cod)) : List Part := S.flatMap (symP f1 n1 f2 n2)
/-- A token's parts, as the model gathers them. -/
def tokP (t : Tok) : List Part :=
  if t.2.1 = 0 then [codeP f1 n1 t.1.toNat] else [codeP f1 n1 (LengthCodeOf t.2.1).1.toNat, ((LengthCodeOf t.2.1).2.2, (LengthCodeOf t.2.1).2.1.toNat, false), codeP f2 n2 (DistCodeOf t.2.2).1.toNat, ((DistCodeOf t.2.2).2.2, (DistCodeOf t.2.2).2.1.toNat, false)]
def toksP (L : List Tok) : List Part := L.flatMap (tokP f1 n1 f2 n2)
def bodyP (L : List Tok) : List Part := toksP f1 n1 f2 n2 L ++ [codeP f1 n1 256]
/-- What the body's bits are. -/
def bodyBits (L : List Tok) : List Int := partBits (bodyP f1 n1 f2 n2 L)
end
section
variable {f1 : Nat → Int} {n1 : Nat} {f2 : Nat → Int} {n2 : Nat}
theorem partBits_cons (p : Part) (l : List Part) : partBits (p :: l) = bitsP p ++ partBits l := rfl
theorem partBits_one (p : Part) : partBits [p] = bitsP p := List.append_nil _
theorem symP_bits (t : Tok) : partBits (symsP f1 n1 f2 n2 (symsT t)) = partBits (tokP f1 n1 f2 n2 t) := by
  obtain ⟨x, y, z⟩ := t
  by_cases hy : y = 0
  · subst hy
    rw [symsT_byte]
    unfold tokP
    rw [if_pos rfl, partBits_one]
    show bitsP (codeP f1 n1 x.toNat) ++ (bitsP (0, 0, false) ++ []) = _
    rw [bitsP_none, List.append_nil, List.append_nil]
  · rw [symsT_rep _ _ hy]
    unfold tokP
    rw [if_neg hy]
    rfl
theorem symsP_app (a b : List (Bool × Cod)) : symsP f1 n1 f2 n2 (a ++ b) = symsP f1 n1 f2 n2 a ++ symsP f1 n1 f2 n2 b := List.flatMap_append
theorem toksP_bits : ∀ L : List Tok, partBits (symsP f1 n1 f2 n2 (symsL L)) = partBits (toksP f1 n1 f2 n2 L)
  | [] => rfl
  | t :: L => by
    have e1 : symsL (t :: L) = symsT t ++ symsL L := rfl
    have e2 : toksP f1 n1 f2 n2 (t :: L) = tokP f1 n1 f2 n2 t ++ toksP f1 n1 f2 n2 L := rfl
    rw [e1, e2, symsP_app, partBits_app, partBits_app, symP_bits, toksP_bits L]
/-- What the program gathers tells the same bits. -/
theorem progP_bits (L : List Tok) : partBits (symsP f1 n1 f2 n2 (symsL L ++ [(false, (256, 0, 0))])) = bodyBits f1 n1 f2 n2 L := by
  unfold bodyBits bodyP
  rw [symsP_app, partBits_app, toksP_bits, partBits_app, partBits_one]
  show _ ++ (bitsP (codeP f1 n1 256) ++ (bitsP (0, 0, false) ++ [])) = _
  rw [bitsP_none, List.append_nil, List.append_nil]
theorem tokP_length (t : Tok) : (tokP f1 n1 f2 n2 t).length ≤ 4 := by
  unfold tokP
  split <;> simp
theorem toksP_length : ∀ L : List Tok, (toksP f1 n1 f2 n2 L).length ≤ 4 * L.length
  | [] => Nat.le_refl _
  | t :: L => by
    have h1 := toksP_length L
    have h2 := tokP_length (f1 := f1) (n1 := n1) (f2 := f2) (n2 := n2) t
    show (tokP f1 n1 f2 n2 t ++ toksP f1 n1 f2 n2 L).length ≤ _
    rw [List.length_append, List.length_cons]
    omega
theorem symsP_length : ∀ S : List (Bool × Cod), (symsP f1 n1 f2 n2 S).length = 2 * S.length
  | [] => rfl
  | x :: S => by
    show (symP f1 n1 f2 n2 x ++ symsP f1 n1 f2 n2 S).length = _
    rw [List.length_append, symsP_length S, List.length_cons]
    show 2 + _ = _
    omega
end
/-- Codes by which a body can be told. -/
structure BodyOk (f1 : Nat → Int) (n1 : Nat) (f2 : Nat → Int) (n2 : Nat) (L : List Tok) : Prop where
  c1 : Coded f1 n1
  e1 : 256 < n1
  m2 : n2 ≤ 288
  w2 : ∀ i, i < n2 → 0 ≤ f2 i ∧ f2 i ≤ 15
  right : ∀ t ∈ L, TokRight t
  s1 : ∀ t ∈ L, sym1 t < n1
  s2 : ∀ t ∈ L, t.2.1 ≠ 0 → Coded f2 n2 ∧ sym2 t < n2
theorem codeP_right {f : Nat → Int} {n i : Nat} (h : Coded f n) (hi : i < n) : Right (codeP f n i) := by
  have h1 := code_lt h hi
  have h2 := h.2.1 i hi
  have h3 := p2_le (show (f i).toNat ≤ 24 by omega)
  have h4 : p2 24 = 16777216 := by decide +kernel
  refine ⟨h1.1, ?_, ?_⟩
  · show codeOf f n i ≤ 16777216
    omega
  · show (f i).toNat ≤ 24
    omega
theorem lenCode_small {y : Int} (h : 3 ≤ y ∧ y ≤ 258) : (0 ≤ (LengthCodeOf y).2.1 ∧ (LengthCodeOf y).2.1 ≤ 6) ∧ 0 ≤ (LengthCodeOf y).2.2 ∧ (LengthCodeOf y).2.2 ≤ 258 := by
  unfold LengthCodeOf
  rw [if_pos h]
  unfold lenCode
  split
  · have hf := (len_fact (n := y.toNat) (by omega) (by omega)).1
    have hb : bitsN 4 (findN 3 4 y.toNat 28) ≤ 6 := by unfold bitsN; omega
    simp only []
    omega
  · simp only []
    omega
theorem distCode_small {z : Int} (h : 1 ≤ z ∧ z ≤ 32768) : (0 ≤ (DistCodeOf z).2.1 ∧ (DistCodeOf z).2.1 ≤ 14) ∧ 0 ≤ (DistCodeOf z).2.2 ∧ (DistCodeOf z).2.2 ≤ 32768 := by
  unfold DistCodeOf
  rw [if_pos h]
  unfold distCode
  have hf := (dist_fact (n := z.toNat) (by omega) (by omega)).1
  have hb : bitsN 2 (findN 1 2 z.toNat 30) ≤ 14 := by unfold bitsN; omega
  simp only []
  omega
section
variable {f1 : Nat → Int} {n1 : Nat} {f2 : Nat → Int} {n2 : Nat} {L : List Tok}
/-- Of a symbol that is told: it has a code, and its extra bits are small. -/
theorem BodyOk.sym (h : BodyOk f1 n1 f2 n2 L) {t : Tok} (ht : t ∈ L) : ∀ x ∈ symsT t, (0 ≤ x.2.1 ∧ (if x.1 = true then Coded f2 n2 ∧ x.2.1.toNat < n2 else x.2.1.toNat < n1)) ∧ (0 ≤ x.2.2.1 ∧ x.2.2.1 ≤ 14) ∧ 0 ≤ x.2.2.2 ∧ x.2.2.2 ≤ 32768 := by
  intro q hq
  have hT := h.right t ht
  have hs1 := h.s1 t ht
  have hs2 := h.s2 t ht
  obtain ⟨x, y, z⟩ := t
  unfold TokRight at hT
  by_cases hy : y = 0
  · subst hy
    rw [if_pos rfl] at hT
    rw [symsT_byte, List.mem_singleton] at hq
    subst hq
    rw [sym1_byte] at hs1
    refine ⟨⟨hT.1.1, ?_⟩, by simp only []; omega, by simp only []; omega⟩
    rw [if_neg (by simp)]
    exact hs1
  · rw [if_neg hy] at hT
    obtain ⟨_, hy2, hz2⟩ := hT
    have ha := len_range (y := y) hy2
    have hb := dist_range (z := z) hz2
    have hc := lenCode_small (y := y) hy2
    have hd := distCode_small (z := z) hz2
    rw [sym1_rep hy] at hs1
    rw [symsT_rep _ _ hy] at hq
    rcases List.mem_cons.mp hq with rfl | hq
    · refine ⟨⟨by simp only []; omega, ?_⟩, by simp only []; omega, by simp only []; omega⟩
      rw [if_neg (by simp)]
      exact hs1
    · rw [List.mem_singleton] at hq
      subst hq
      refine ⟨⟨by simp only []; omega, ?_⟩, by simp only []; omega, by simp only []; omega⟩
      rw [if_pos rfl]
      exact hs2 hy
theorem BodyOk.symR (h : BodyOk f1 n1 f2 n2 L) {t : Tok} (ht : t ∈ L) : ∀ x ∈ symsT t, ∀ p ∈ symP f1 n1 f2 n2 x, Right p := by
  intro x hx p hp
  obtain ⟨⟨k0, k1⟩, k2, k3⟩ := h.sym ht x hx
  unfold symP at hp
  rcases List.mem_cons.mp hp with rfl | hp
  · by_cases hb : x.1 = true
    · rw [if_pos hb] at k1 ⊢
      exact codeP_right k1.1 k1.2
    · rw [if_neg hb] at k1 ⊢
      exact codeP_right h.c1 k1
  · rw [List.mem_singleton] at hp
    subst hp
    refine ⟨k3.1, ?_, ?_⟩ <;> simp only [] <;> omega
theorem BodyOk.progR (h : BodyOk f1 n1 f2 n2 L) : ∀ p ∈ symsP f1 n1 f2 n2 (symsL L ++ [(false, (256, 0, 0))]), Right p := by
  intro p hp
  obtain ⟨x, hx, hp⟩ := List.mem_flatMap.mp hp
  rcases List.mem_append.mp hx with hx | hx
  · obtain ⟨t, ht, hx⟩ := List.mem_flatMap.mp hx
    exact h.symR ht x hx p hp
  · rw [List.mem_singleton] at hx
    subst hx
    unfold symP at hp
    rcases List.mem_cons.mp hp with rfl | hp
    · rw [if_neg (by simp)]
      exact codeP_right h.c1 h.e1
    · rw [List.mem_singleton] at hp
      subst hp
      exact ⟨by simp, by simp, by simp⟩
theorem BodyOk.tokR (h : BodyOk f1 n1 f2 n2 L) {t : Tok} (ht : t ∈ L) : ∀ p ∈ tokP f1 n1 f2 n2 t, Right p := by
  intro p hp
  obtain ⟨x, y, z⟩ := t
  by_cases hy : y = 0
  · subst hy
    have hR := h.symR ht (false, (x, 0, 0)) (by rw [symsT_byte]; exact List.mem_singleton.mpr rfl)
    unfold tokP at hp
    rw [if_pos rfl, List.mem_singleton] at hp
    subst hp
    exact hR _ (List.mem_cons_self ..)
  · have h1 := h.symR ht (false, LengthCodeOf y) (by rw [symsT_rep _ _ hy]; exact List.mem_cons_self ..)
    have h2 := h.symR ht (true, DistCodeOf z) (by rw [symsT_rep _ _ hy]; exact List.mem_cons_of_mem _ (List.mem_cons_self ..))
    unfold tokP at hp
    rw [if_neg hy] at hp
    rcases List.mem_cons.mp hp with rfl | hp
    · exact h1 _ (List.mem_cons_self ..)
    · rcases List.mem_cons.mp hp with rfl | hp
      · exact h1 _ (List.mem_cons_of_mem _ (List.mem_cons_self ..))
      · rcases List.mem_cons.mp hp with rfl | hp
        · exact h2 _ (List.mem_cons_self ..)
        · rw [List.mem_singleton] at hp
          subst hp
          exact h2 _ (List.mem_cons_of_mem _ (List.mem_cons_self ..))
theorem BodyOk.bodyR (h : BodyOk f1 n1 f2 n2 L) : ∀ p ∈ bodyP f1 n1 f2 n2 L, Right p := by
  intro p hp
  rcases List.mem_append.mp hp with hp | hp
  · obtain ⟨t, ht, hp⟩ := List.mem_flatMap.mp hp
    exact h.tokR ht p hp
  · rw [List.mem_singleton] at hp
    subst hp
    exact codeP_right h.c1 h.e1
end
end BodyMath
end Go.Proofs.YtbcnlggkoidmmaaGreatDoor

namespace Go.Proofs.YtbcnlggkoidmmaaGreatDoor
open CodeMath InfMath TokMath StepMath TrimMath TokLenMath BlockMath BodyMath

/-- The fixed codes can tell every body. -/
theorem fixed_body {L : List Tok} (h : ∀ t ∈ L, TokRight t) : BodyOk fixed1 288 fixed2 32 L where
  c1 := fixed1_coded
  e1 := by omega
  m2 := by omega
  w2 := fun i hi => fixed2_coded.2.1 i hi
  right := h
  s1 := fun t ht => by have := (sym1_lt (h t ht)).1; omega
  s2 := fun t ht hy => by
    refine ⟨fixed2_coded, ?_⟩
    have hT := h t ht
    obtain ⟨x, y, z⟩ := t
    unfold TokRight at hT
    rw [if_neg hy] at hT
    have := dist_range (z := z) hT.2.2
    unfold sym2
    simp only []
    omega
/-- What FixedBlock comes to. -/
def fixedOut (s : ByteArray) (c : Int) (L : List Tok) (last : Bool) : Option (ByteArray × Nat) :=
  if TokensRight L then (outSt s c).bind fun o => bitsOut o (headBits 1 last ++ bodyBits fixed1 288 fixed2 32 L) else none
end Go.Proofs.YtbcnlggkoidmmaaGreatDoor
