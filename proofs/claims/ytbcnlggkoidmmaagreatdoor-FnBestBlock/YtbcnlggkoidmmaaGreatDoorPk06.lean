/-
  Unpacking, in plain numbers: what comes of a packed text, or which code is met first. Nothing here speaks of the program.
  Slices of numbers that a call made itself, by what number stands where. Nothing here speaks of the program.
  Lists of pairs of numbers (Runs) in memory. Nothing here speaks of the program but the numbers of its types.
-/
import Derived.Test.YtbcnlggkoidmmaaGreatDoorPk04
import Derived.Test.YtbcnlggkoidmmaaGreatDoorPk05
import Derived.Test.YtbcnlggkoidmmaaGreatDoorPk02
import Derived.Test.YtbcnlggkoidmmaaGreatDoorRows
import Derived.Test.YtbcnlggkoidmmaaGreatDoorPk01
import Derived.WalkKit
import Derived.Below
import Derived.OpenShut
import Derived.Laws.MakeOwn
import Derived.Lib.SmallJoins
import Derived.ProofKit
import Derived.OwnWalk
import Derived.Deep.AppendLies
import Derived.Maps.AppendAt
import Derived.Laws.AppendOwnNone
namespace Go.Proofs.YtbcnlggkoidmmaaGreatDoor.InfMath
open OutMath CodeMath TakeMath HitMath WayMath StepMath TokMath RunsMath

section
variable (s : ByteArray) (most : Nat)
/-- The next n bits, and the place behind them. -/
def takeE (p n : Nat) : Except Nat (Int × Nat) := if p + n ≤ 8 * s.size then .ok (num s p n, p + n) else .error 2
/-- The next symbol of a code, and the place behind it. -/
noncomputable def symE (f : Nat → Int) (n p : Nat) : Except Nat (Nat × Nat) := if (symW f n s p).2.2 = 0 then .ok ((symW f n s p).1, p + (symW f n s p).2.1) else if (symW f n s p).2.2 = 2 then .error 2 else .error 6
def bytesAt (p n : Nat) : List Int := (List.range n).map fun i => num s (p + 8 * i) 8
/-- The next whole byte. -/
def wholeAt (p : Nat) : Nat := 8 * ((p + 7) / 8)
/-- A block of type 0. -/
def storedE (p : Nat) (O : List Int) : Except Nat (List Int × Nat) :=
  if wholeAt p + 32 ≤ 8 * s.size then
    (if num s (wholeAt p) 16 + num s (wholeAt p + 16) 16 ≠ 65535 then .error 4
     else if (most : Int) - O.length < num s (wholeAt p) 16 then .error 8
     else if wholeAt p + 32 + 8 * (num s (wholeAt p) 16).toNat ≤ 8 * s.size then .ok (O ++ bytesAt s (wholeAt p + 32) (num s (wholeAt p) 16).toNat, wholeAt p + 32 + 8 * (num s (wholeAt p) 16).toNat)
     else .error 2)
  else .error 2
/-- In which order the lengths of the third code come. -/
def orderL : List Nat := [16, 17, 18, 0, 8, 7, 9, 6, 10, 5, 11, 4, 12, 3, 13, 2, 14, 1, 15]
/-- The third code's lengths, when k have come. -/
def thirdF (p k : Nat) : Nat → Int := fun i => if orderL.idxOf i < k then num s (p + 3 * orderL.idxOf i) 3 else 0
/-- Runs by the third code, up to N lengths. -/
noncomputable def allF (f3 : Nat → Int) (N : Nat) : Nat → Nat → List Int → Except Nat (List Int × Nat)
  | 0, _, _ => .error 9
  | m + 1, p, L => if L.length < N then
      match symE s f3 19 p with
      | .error x => .error x
      | .ok (y, p1) => match takeE s p1 (bitsOf (y : Int)) with
        | .error x => .error x
        | .ok (x, p2) => match tell L ((y : Int), x) with
          | none => .error 5
          | some more => if L.length + more.length ≤ N then allF f3 N m p2 (L ++ more) else .error 5
    else .ok (L, p)
/-- What the lengths must be. -/
def TabRight (n : Nat) (L : List Int) : Prop := (kindOf (fun i => L.getD i 0) n = 2 ∨ kindOf (fun i => L.getD i 0) n = 3) ∧ L.getD 256 0 ≠ 0 ∧ (kindOf (fun i => (L.drop n).getD i 0) (L.length - n) = 1 ∨ kindOf (fun i => (L.drop n).getD i 0) (L.length - n) = 2 ∨ kindOf (fun i => (L.drop n).getD i 0) (L.length - n) = 3)
instance (n : Nat) (L : List Int) : Decidable (TabRight n L) := by unfold TabRight; exact inferInstance
/-- The lengths of both codes of a block of type 2, one behind the other; how many the first has; the place behind them. -/
noncomputable def tablesE (p : Nat) : Except Nat (List Int × Nat × Nat) :=
  if p + 14 ≤ 8 * s.size then
    (if 29 < num s p 5 ∨ 29 < num s (p + 5) 5 then .error 5
     else if p + 14 + 3 * (num s (p + 10) 4 + 4).toNat ≤ 8 * s.size then
       (if kindOf (thirdF s (p + 14) (num s (p + 10) 4 + 4).toNat) 19 ≠ 2 then .error 5
        else match allF s (thirdF s (p + 14) (num s (p + 10) 4 + 4).toNat) ((num s p 5 + 257).toNat + (num s (p + 5) 5 + 1).toNat) (8 * s.size + 1) (p + 14 + 3 * (num s (p + 10) 4 + 4).toNat) [] with
          | .error x => .error x
          | .ok (L, p2) => if TabRight (num s p 5 + 257).toNat L then .ok (L, (num s p 5 + 257).toNat, p2) else .error 5)
     else .error 2)
  else .error 2
/-- The symbols of a block. -/
noncomputable def symbolsF (f1 : Nat → Int) (n1 : Nat) (f2 : Nat → Int) (n2 : Nat) : Nat → Nat → List Int → Except Nat (List Int × Nat)
  | 0, _, _ => .error 9
  | m + 1, p, O => match symE s f1 n1 p with
    | .error x => .error x
    | .ok (y, p1) =>
      if y = 256 then .ok (O, p1)
      else if y < 256 then (if O.length = most then .error 8 else symbolsF f1 n1 f2 n2 m p1 (O ++ [(y : Int)]))
      else if 285 < y then .error 6
      else match takeE s p1 (lenBits y).1 with
        | .error x => .error x
        | .ok (x, p2) => match symE s f2 n2 p2 with
          | .error x => .error x
          | .ok (q, p3) =>
            if 29 < q then .error 6
            else match takeE s p3 (distBits q).1 with
              | .error x => .error x
              | .ok (z, p4) =>
                if (O.length : Int) < (distBits q).2 + z then .error 7
                else if (most : Int) - O.length < (lenBits y).2 + x then .error 8
                else symbolsF f1 n1 f2 n2 m p4 (copyN ((distBits q).2 + z).toNat ((lenBits y).2 + x).toNat O)
/-- The lengths of type 1. -/
def fixed1 (i : Nat) : Int := if i < 144 then 8 else if i < 256 then 9 else if i < 280 then 7 else 8
def fixed2 (_ : Nat) : Int := 5
/-- What stands in a block, behind its first three bits. -/
noncomputable def blockE (kind : Int) (p : Nat) (O : List Int) : Except Nat (List Int × Nat) :=
  if kind = 0 then storedE s most p O
  else if kind = 1 then symbolsF s most fixed1 288 fixed2 32 (8 * s.size + 1) p O
  else if kind = 2 then (match tablesE s p with
    | .error x => .error x
    | .ok (L, n, p2) => symbolsF s most (fun i => L.getD i 0) n (fun i => (L.drop n).getD i 0) (L.length - n) (8 * s.size + 1) p2 O)
  else .error 3
/-- The blocks. -/
noncomputable def blocksF : Nat → Nat → List Int → List Int → Except Nat (List Int × Nat × List Int)
  | 0, _, _, _ => .error 9
  | m + 1, p, O, Ty => if p + 3 ≤ 8 * s.size then
      match blockE s most (num s (p + 1) 2) (p + 3) O with
      | .error x => .error x
      | .ok (O', p') => if num s p 1 = 0 then blocksF m p' O' (Ty ++ [num s (p + 1) 2]) else .ok (O', p', Ty ++ [num s (p + 1) 2])
    else .error 2
end
/-- What is asked of Inflate. -/
noncomputable def inflateE (s : ByteArray) (most : Int) : Except Nat (List Int × Nat × List Int) := if s.size ≤ 12000 ∧ 0 ≤ most ∧ most ≤ 12000 then blocksF s most.toNat (8 * s.size + 1) 0 [] [] else .error 1

end Go.Proofs.YtbcnlggkoidmmaaGreatDoor.InfMath

namespace Go.Proofs.YtbcnlggkoidmmaaGreatDoor
open Go.RowKit Go.Joins

def fints (f : Nat → Int) (n : Nat) : List Value := (List.range n).map fun i => .int .i64 (f i)
/-- f with x at the place j. -/
def upd (f : Nat → Int) (j : Nat) (x : Int) : Nat → Int := fun i => if i = j then x else f i
theorem fints_length (f : Nat → Int) (n : Nat) : (fints f n).length = n := by simp [fints]
theorem fints_get (f : Nat → Int) (n j : Nat) (h : j < (fints f n).length) : (fints f n)[j] = .int .i64 (f j) := by simp [fints]
theorem fints_congr {f g : Nat → Int} {n : Nat} (h : ∀ i, i < n → f i = g i) : fints f n = fints g n := by
  unfold fints
  refine List.map_congr_left fun i hi => ?_
  rw [h i (List.mem_range.mp hi)]
theorem fints_set (f : Nat → Int) (n j : Nat) (x : Int) : (fints f n).set j (.int .i64 x) = fints (upd f j x) n := by
  refine List.ext_getElem (by simp [fints]) fun i h1 h2 => ?_
  rw [List.getElem_set, fints_get (upd f j x)]
  by_cases hij : j = i
  · subst hij
    rw [if_pos rfl]
    simp [upd]
  · have hji : ¬ i = j := fun h => hij h.symm
    rw [if_neg hij, fints_get]
    simp [upd, hji]
/-- The slice at the head of block g is the call's own and holds f 0, .., f (n - 1). -/
def IOwn (w : World) (base g n cap : Nat) (f : Nat → Int) : Prop := Own 3 w base g (.slice (some ⟨g, 0, none⟩) n cap) (fints f n)

section
variable {w w' : World} {base g n cap : Nat} {f : Nat → Int}
theorem IOwn.lt (h : IOwn w base g n cap f) : g < w.heap.size := Own.lt h
theorem IOwn.base_le (h : IOwn w base g n cap f) : base ≤ g := Own.base_le h
theorem IOwn.cell (h : IOwn w base g n cap f) (j : Nat) (hj : j < n) : w.cell? ⟨g, j, none⟩ = some (.int .i64 (f j)) := by
  have h' : j < (fints f n).length := by rw [fints_length]; exact hj
  rw [Own.cell h j h', fints_get]
theorem IOwn.free (h : IOwn w base g n cap f) (j : Nat) (hj : j < n) : w.frozen? ⟨g, j, none⟩ = false := Own.free h j (by rw [fints_length]; exact hj)
theorem IOwn.set (h : IOwn w base g n cap f) (j : Nat) (hj : j < n) (x : Int) : IOwn (w.setCell ⟨g, j, none⟩ (.int .i64 x)) base g n cap (upd f j x) := by
  have k := Own.set h j (by rw [fints_length]; exact hj) (.int .i64 x)
  rw [fints_set] at k
  exact k
theorem IOwn.congr {f' : Nat → Int} (h : IOwn w base g n cap f) (e : ∀ i, i < n → f i = f' i) : IOwn w base g n cap f' := by
  unfold IOwn at h ⊢
  rw [← fints_congr e]
  exact h
theorem IOwn.keep (h : IOwn w base g n cap f) (hk : w'.heap[g]? = w.heap[g]?) : IOwn w' base g n cap f := Own.keep h hk
theorem IOwn.alloc (h : IOwn w base g n cap f) (o : Obj) : IOwn (w.alloc o) base g n cap f := Own.alloc h o
theorem IOwn.drew (h : IOwn w base g n cap f) : IOwn w.drew base g n cap f := Own.drewN h 1
theorem IOwn.below {B : Nat} (h : IOwn w base g n cap f) (hb : Below B w w') (hg : g < B) : IOwn w' base g n cap f := Own.below h hb hg
/-- Behind a call that turned nothing old. -/
theorem IOwn.called (h : IOwn w base g n cap f) (hb : Below w.heap.size w w') : IOwn w' base g n cap f := Own.below h hb h.lt
theorem IOwn.mono {b : Nat} (h : IOwn w base g n cap f) (hb : b ≤ base) : IOwn w b g n cap f := Own.mono h hb
theorem IOwn.grown {row : Option Nat} (h : IOwn w base g n cap f) (hg : w.grownBy w' row) (hne : row ≠ some g) : IOwn w' base g n cap f := h.keep (hg.block g h.lt (Ne.symm hne))

theorem made_ints (n : Nat) : (madeCells #[Value.int .i64 0] n).toList = fints (fun _ => 0) n := by
  unfold madeCells fints
  rw [Array.toList_map, Array.toList_range]
  refine List.map_congr_left fun i _ => ?_
  simp [Nat.mod_one]

/-- 'make([]int, n)'. -/
theorem IOwn.made (w : World) (n : Nat) (hn : n ≤ maxLen) (hb : base ≤ w.heap.size) : IOwn (w.alloc (.cells (madeCells #[Value.int .i64 0] n) 3)) base w.heap.size n n (fun _ => 0) := by
  refine ⟨n, madeCells #[Value.int .i64 0] n, (0, 0), by rw [fints_length], hb, heap_alloc_new w _, .inl rfl, by rw [fints_length]; exact Nat.le_refl _, hn, by simp [madeCells], ?_⟩
  rw [made_ints, fints_length, List.take_of_length_le (by rw [fints_length]; exact Nat.le_refl _)]
end

/-- A slice of numbers that came in: it is empty, or its numbers lie from place 'off' of an old block on. -/
def Came (w : World) (a : Option Addr) (n : Nat) (f : Nat → Int) : Prop :=
  n = 0 ∨ ∃ g off, a = some ⟨g, off, none⟩ ∧ g < w.heap.size ∧ ∀ j, j < n → w.cell? ⟨g, off + j, none⟩ = some (.int .i64 (f j))
theorem Came.called {w w' : World} {a : Option Addr} {n : Nat} {f : Nat → Int} (h : Came w a n f) (hb : Below w.heap.size w w') : Came w' a n f := by
  rcases h with h | ⟨g, off, ha, hg, hc⟩
  · exact .inl h
  · exact .inr ⟨g, off, ha, Nat.lt_of_lt_of_le hg hb.size, fun j hj => (hb.cell (p := ⟨g, off + j, none⟩) hg).trans (hc j hj)⟩

/-- A slice that was handed back: it is empty, or the maker's own. -/
def SL (w : World) (base : Nat) (a : Option Addr) (n cap : Nat) (f : Nat → Int) : Prop := n = 0 ∨ ∃ g, a = some ⟨g, 0, none⟩ ∧ IOwn w base g n cap f
theorem SL.came {w : World} {base : Nat} {a : Option Addr} {n cap : Nat} {f : Nat → Int} (h : SL w base a n cap f) : Came w a n f := by
  rcases h with h | ⟨g, rfl, h⟩
  · exact .inl h
  · exact .inr ⟨g, 0, rfl, h.lt, fun j hj => by rw [Nat.zero_add]; exact h.cell j hj⟩
theorem SL.called {w w' : World} {base : Nat} {a : Option Addr} {n cap : Nat} {f : Nat → Int} (h : SL w base a n cap f) (hb : Below w.heap.size w w') : SL w' base a n cap f := by
  rcases h with h | ⟨g, rfl, h⟩
  · exact .inl h
  · exact .inr ⟨g, rfl, h.called hb⟩
theorem IOwn.sl {w : World} {base g n cap : Nat} {f : Nat → Int} (h : IOwn w base g n cap f) : SL w base (some ⟨g, 0, none⟩) n cap f := .inr ⟨g, rfl, h⟩
/-- An old slice behind what turned one new block. -/
theorem Came.grown {w w' : World} {a : Option Addr} {n B : Nat} {f : Nat → Int} {row : Option Nat} (h : Came w a n f) (hB : ∀ g off, a = some ⟨g, off, none⟩ → g < B) (hr : ∀ k, row = some k → B ≤ k) (hg : w.grownBy w' row) : Came w' a n f := by
  rcases h with h | ⟨g, off, ha, hlt, hc⟩
  · exact .inl h
  · refine .inr ⟨g, off, ha, Nat.lt_of_lt_of_le hlt hg.size, fun j hj => ?_⟩
    have hne : some g ≠ row := fun e => by have h1 := hB g off ha; have h2 := hr g e.symm; omega
    have hb := hg.block g hlt hne
    rw [← hc j hj]
    unfold World.cell?
    rw [hb]

end Go.Proofs.YtbcnlggkoidmmaaGreatDoor

namespace Go.Proofs.YtbcnlggkoidmmaaGreatDoor
open Go.RowKit Go.Joins

theorem info_run : (Tryz.prog.info? 95).map (fun i => (i.zero, i.size, i.bytes)) = some (some (.agg #[.int .i64 0, .int .i64 0]), 2, 16) := by kernel_rfl

/-- The cells of runs. -/
def dcells : List (Int × Int) → List Value
  | [] => []
  | c :: l => .int .i64 c.1 :: .int .i64 c.2 :: dcells l
theorem dcells_length : ∀ l : List (Int × Int), (dcells l).length = l.length * 2
  | [] => rfl
  | c :: l => by
    show (dcells l).length + 1 + 1 = (l.length + 1) * 2
    rw [dcells_length l]
    omega
theorem dcells_app : ∀ xs ys : List (Int × Int), dcells (xs ++ ys) = dcells xs ++ dcells ys
  | [], ys => rfl
  | c :: l, ys => by
    show Value.int .i64 c.1 :: .int .i64 c.2 :: dcells (l ++ ys) = Value.int .i64 c.1 :: .int .i64 c.2 :: (dcells l ++ dcells ys)
    rw [dcells_app l ys]
theorem dcells_get0 : ∀ (l : List (Int × Int)) (i : Nat), i < l.length → (dcells l)[i * 2]? = some (.int .i64 (l.getD i (0, 0)).1)
  | [], i, h => by simp at h
  | c :: l, 0, _ => rfl
  | c :: l, i + 1, h => by
    rw [show (i + 1) * 2 = i * 2 + 1 + 1 by omega]
    show (dcells l)[i * 2]? = some (.int .i64 (l.getD i (0, 0)).1)
    exact dcells_get0 l i (by simpa using h)
theorem dcells_get1 : ∀ (l : List (Int × Int)) (i : Nat), i < l.length → (dcells l)[i * 2 + 1]? = some (.int .i64 ((l.getD i (0, 0)).2))
  | [], i, h => by simp at h
  | c :: l, 0, _ => rfl
  | c :: l, i + 1, h => by
    rw [show (i + 1) * 2 + 1 = i * 2 + 1 + 1 + 1 by omega]
    show (dcells l)[i * 2 + 1]? = some (.int .i64 ((l.getD i (0, 0)).2))
    exact dcells_get1 l i (by simpa using h)
theorem dcells_one : ∀ (l : List (Int × Int)), ∀ u ∈ dcells l, u.oneCell' = true
  | [], u, h => by cases h
  | c :: l, u, h => by
    rcases List.mem_cons.mp h with rfl | h
    · rfl
    · rcases List.mem_cons.mp h with rfl | h
      · rfl
      · exact dcells_one l u h

/-- The Runs L lie at a, in a block below B. -/
def RunsLie (w : World) (B : Nat) (a : Option Addr) (L : List (Int × Int)) : Prop :=
  L = [] ∨ ∃ g off, a = some ⟨g, off, none⟩ ∧ g < B ∧ g < w.heap.size ∧ ∀ j u, (dcells L)[j]? = some u → w.cell? ⟨g, off + j, none⟩ = some u
/-- A slice of them. -/
def Dst (w : World) (B : Nat) (a : Option Addr) (c : Nat) (L : List (Int × Int)) : Prop := L.length ≤ c ∧ (a = none → c = 0) ∧ RunsLie w B a L

section
variable {w w' : World} {B : Nat} {a : Option Addr} {c : Nat} {L : List (Int × Int)} {x : Int × Int}
theorem RunsLie.kept (h : RunsLie w B a L) (hb : Below B w w') : RunsLie w' B a L := by
  rcases h with h | ⟨g, off, ha, h1, h2, h3⟩
  · exact .inl h
  · exact .inr ⟨g, off, ha, h1, Nat.lt_of_lt_of_le h2 hb.size, fun j u hu => (hb.cell (p := ⟨g, off + j, none⟩) h1).trans (h3 j u hu)⟩
theorem Dst.kept (h : Dst w B a c L) (hb : Below B w w') : Dst w' B a c L := ⟨h.1, h.2.1, h.2.2.kept hb⟩
theorem RunsLie.mono {B' : Nat} (h : RunsLie w B a L) (hB : B ≤ B') : RunsLie w B' a L := by
  rcases h with h | ⟨g, off, ha, h1, h2, h3⟩
  · exact .inl h
  · exact .inr ⟨g, off, ha, by omega, h2, h3⟩
theorem Dst.mono {B' : Nat} (h : Dst w B a c L) (hB : B ≤ B') : Dst w B' a c L := ⟨h.1, h.2.1, h.2.2.mono hB⟩
theorem Dst.cons (h : Dst w B a c (x :: L)) : ∃ g off d, a = some ⟨g, off, none⟩ ∧ c = d + 1 ∧ L.length ≤ d ∧ g < B ∧ g < w.heap.size ∧ w.cell? ⟨g, off, none⟩ = some (.int .i64 x.1) ∧ w.cell? ⟨g, off + 1, none⟩ = some (.int .i64 x.2) ∧ Dst w B (some ⟨g, off + 2, none⟩) d L := by
  obtain ⟨h1, h2, h3⟩ := h
  rw [List.length_cons] at h1
  rcases h3 with h3 | ⟨g, off, ha, q1, q2, q3⟩
  · cases h3
  · refine ⟨g, off, c - 1, ha, by omega, by omega, q1, q2, q3 0 _ rfl, q3 1 _ rfl, by omega, (fun e => by cases e), .inr ⟨g, off + 2, rfl, q1, q2, fun j u hu => ?_⟩⟩
    have := q3 (j + 2) u hu
    rw [show off + 2 + j = off + (j + 2) by omega]
    exact this
theorem Dst.cell (h : Dst w B a c L) (hp : 0 < L.length) : ∃ g off, a = some ⟨g, off, none⟩ ∧ g < B ∧ g < w.heap.size ∧ ∀ i, i < L.length → w.cell? ⟨g, off + i * 2, none⟩ = some (.int .i64 (L.getD i (0, 0)).1) ∧ w.cell? ⟨g, off + (i * 2 + 1), none⟩ = some (.int .i64 ((L.getD i (0, 0)).2)) := by
  rcases h.2.2 with h3 | ⟨g, off, ha, q1, q2, q3⟩
  · rw [h3] at hp; simp at hp
  · exact ⟨g, off, ha, q1, q2, fun i hi => ⟨q3 _ _ (dcells_get0 L i hi), q3 _ _ (dcells_get1 L i hi)⟩⟩
theorem Dst.news (h : Dst w B a c L) : ∀ ad, a = some ad → ∀ j u, (dcells L)[j]? = some u → w.cell? (ad.add j) = some u := by
  intro ad e j u hu
  rcases h.2.2 with h3 | ⟨g, off, ha, q1, q2, q3⟩
  · rw [h3] at hu; cases hu
  · rw [ha] at e
    cases e
    rw [Addr.add_lit]
    exact q3 j u hu
/-- What a call owns is such a list. -/
theorem dst_of_own {S n : Nat} {v : Value} (h : w.ownsRow S 95 2 v n (dcells L)) (hn : n = L.length) : ∃ a c, v = .slice a L.length c ∧ Dst w w.heap.size a c L ∧ c ≤ maxLen := by
  subst hn
  rcases h.2 with ⟨rfl, h0⟩ | ⟨g, cap, cur, rfl, hb, hg, hc, hm, hs, ht⟩
  · exact ⟨none, 0, by rw [h0], ⟨by omega, fun _ => rfl, .inl (List.eq_nil_of_length_eq_zero h0)⟩, Nat.zero_le _⟩
  · refine ⟨_, cap, rfl, ⟨hc, (fun e => by cases e), .inr ⟨g, 0, rfl, block_lt hg, block_lt hg, fun j u hu => ?_⟩⟩, hm⟩
    have hj : j < L.length * 2 := by
      rcases Nat.lt_or_ge j (L.length * 2) with k | k
      · exact k
      · rw [List.getElem?_eq_none (by rw [dcells_length]; exact k)] at hu; cases hu
    rw [Nat.zero_add, h.cellAt j hj]
    exact hu
end

/-- 'append(v, ys...)' of runs. -/
theorem runs_append {w : World} {S : Nat} {v : Value} {xs ys : List (Int × Int)} {ops : Array Oper} {rest : List Oper} {o : Oper} {a : Act} {Q : Exit → Act → World → Prop} (hgd : o.guard = none) (s x : Operand)
    (ho : o.op = .call { callee := .builtin .append, args := #[s, x], argTypes := #[91, 91] }) (hs : a.eval s = v) (h : w.ownsRow S 95 2 v xs.length (dcells xs)) (ao : Option Addr) (m c : Nat) (hx : a.eval x = .slice ao m c) (hm : ys.length = m)
    (hc : ∀ ad, ao = some ad → ∀ j u, (dcells ys)[j]? = some u → w.cell? (ad.add j) = some u) (hn : ao = none → m = 0 ∧ c = 0)
    (h63 : xs.length + ys.length ≤ 100000) (hS : S ≤ w.heap.size)
    (hK : ∀ v' w', w'.ownsRow S 95 2 v' (xs ++ ys).length (dcells (xs ++ ys)) → w.grownBy w' v.ownBlock → wpList Tryz.prog ops Q rest (a.put o.dst v') w') : wpList Tryz.prog ops Q (o :: rest) a w := by
  obtain ⟨i0, hi0, hz0, hz1, hz2⟩ := info_parts info_run
  cases ao with
  | none =>
    obtain ⟨rfl, rfl⟩ := hn rfl
    obtain rfl : ys = [] := List.eq_nil_of_length_eq_zero hm
    refine wpList_append_own_none hgd s x _ ho S 95 i0 2 Tryz.underlying91 hi0 v _ _ hs h hx (hK v w (by simpa using h) ⟨rfl, rfl, rfl, Nat.le_refl _, fun _ _ _ => rfl⟩)
  | some ad =>
    refine wpList_append_own_at w hgd s x _ ho S 95 i0 _ 2 16 Tryz.underlying91 hi0 hz0 hz1 hz2 rfl (by omega) v _ _ hs h ad m c (dcells ys) hx (by rw [dcells_length, hm]) (hc ad rfl) (dcells_one ys) (by unfold maxLen; omega) (by omega) hS ?_
    intro v' w' hown hg _ _
    refine hK v' w' ?_ hg
    rw [List.length_append, dcells_app, hm]
    exact hown

end Go.Proofs.YtbcnlggkoidmmaaGreatDoor
