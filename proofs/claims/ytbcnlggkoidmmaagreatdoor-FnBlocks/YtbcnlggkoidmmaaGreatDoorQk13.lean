/-
  Lists of pairs of numbers (Runs) in memory. Nothing here speaks of the program but the numbers of its types.
  The walks of what Runs tell in the document's model, and of lists of numbers of a call's own.
  'append' of one number onto a list of numbers of the call's own.
  What is handed back, by its number. Nothing here speaks of the program.
  A byte of a text, read.
  An unpacking under way in the document's model: its record; how bits and symbols are taken of it.
  An unpacking under way in the document's model: its record, what it made so far, and the types so far.
  append of one element onto a list of numbers or bytes of the call's own, and where the row lies behind it.
  The walks of the program's reader of bits: it is made, and told.
  An unpacking under way in the program: its record, its reader, what it made so far, the types so far; what a step leaves alone.
-/
import Derived.Test.YtbcnlggkoidmmaaGreatDoorRows
import Derived.Test.YtbcnlggkoidmmaaGreatDoorQk01
import Derived.Test.YtbcnlggkoidmmaaGreatDoorQk06
import Derived.Test.YtbcnlggkoidmmaaGreatDoorQk03
import Derived.Test.YtbcnlggkoidmmaaGreatDoorQk07
import Derived.Test.YtbcnlggkoidmmaaGreatDoorQk04
import Derived.Test.YtbcnlggkoidmmaaGreatDoorQk05
import Derived.Test.YtbcnlggkoidmmaaGreatDoorQk02
import Derived.WalkKit
import Derived.ProofKit
import Derived.Below
import Derived.OwnWalk
import Derived.Deep.AppendLies
import Derived.Maps.AppendAt
import Derived.Laws.AppendOwnNone
import Derived.Lib.SmallJoins
import Derived.WalkLawsBesides
import Derived.Deep.LoopGhost
import Derived.Deep.QuietTactic
import Derived.BigQuiet
import Derived.RegionTactic
import Derived.BigRegion
import Derived.Laws.AppendOwn
import Derived.Laws.OwnMore
import Derived.Deep.RegionWith
namespace Go.Proofs.YtbcnlggkoidmmaaGreatDoor
open Go.RowKit Go.Joins

theorem info_run : (Tryz.prog.info? 95).map (fun i => (i.zero, i.size, i.bytes)) = some (some (.agg #[.int .i64 0, .int .i64 0]), 2, 16) := by kernel_rfl

/-- The cells of runs. -/
def dcells : List (Int × Int) → List Value
  | [] => []
  | c :: l => .int .i64 c.1 :: .int .i64 c.2 :: dcells l
theorem dcells_length : ∀ l : List (Int × Int), (dcells l).length = l.length * 2
  | [] => rfl
  | c :: l => by
    show (dcells l).length + 1 + 1 = (l.length + 1) * 2
    rw [dcells_length l]
    omega
theorem dcells_app : ∀ xs ys : List (Int × Int), dcells (xs ++ ys) = dcells xs ++ dcells ys
  | [], ys => rfl
  | c :: l, ys => by
    show Value.int .i64 c.1 :: .int .i64 c.2 :: dcells (l ++ ys) = Value.int .i64 c.1 :: .int .i64 c.2 :: (dcells l ++ dcells ys)
    rw [dcells_app l ys]
theorem dcells_get0 : ∀ (l : List (Int × Int)) (i : Nat), i < l.length → (dcells l)[i * 2]? = some (.int .i64 (l.getD i (0, 0)).1)
  | [], i, h => by simp at h
  | c :: l, 0, _ => rfl
  | c :: l, i + 1, h => by
    rw [show (i + 1) * 2 = i * 2 + 1 + 1 by omega]
    show (dcells l)[i * 2]? = some (.int .i64 (l.getD i (0, 0)).1)
    exact dcells_get0 l i (by simpa using h)
theorem dcells_get1 : ∀ (l : List (Int × Int)) (i : Nat), i < l.length → (dcells l)[i * 2 + 1]? = some (.int .i64 ((l.getD i (0, 0)).2))
  | [], i, h => by simp at h
  | c :: l, 0, _ => rfl
  | c :: l, i + 1, h => by
    rw [show (i + 1) * 2 + 1 = i * 2 + 1 + 1 + 1 by omega]
    show (dcells l)[i * 2 + 1]? = some (.int .i64 ((l.getD i (0, 0)).2))
    exact dcells_get1 l i (by simpa using h)
theorem dcells_one : ∀ (l : List (Int × Int)), ∀ u ∈ dcells l, u.oneCell' = true
  | [], u, h => by cases h
  | c :: l, u, h => by
    rcases List.mem_cons.mp h with rfl | h
    · rfl
    · rcases List.mem_cons.mp h with rfl | h
      · rfl
      · exact dcells_one l u h

/-- The Runs L lie at a, in a block below B. -/
def RunsLie (w : World) (B : Nat) (a : Option Addr) (L : List (Int × Int)) : Prop :=
  L = [] ∨ ∃ g off, a = some ⟨g, off, none⟩ ∧ g < B ∧ g < w.heap.size ∧ ∀ j u, (dcells L)[j]? = some u → w.cell? ⟨g, off + j, none⟩ = some u
/-- A slice of them. -/
def Dst (w : World) (B : Nat) (a : Option Addr) (c : Nat) (L : List (Int × Int)) : Prop := L.length ≤ c ∧ (a = none → c = 0) ∧ RunsLie w B a L

section
variable {w w' : World} {B : Nat} {a : Option Addr} {c : Nat} {L : List (Int × Int)} {x : Int × Int}
theorem RunsLie.kept (h : RunsLie w B a L) (hb : Below B w w') : RunsLie w' B a L := by
  rcases h with h | ⟨g, off, ha, h1, h2, h3⟩
  · exact .inl h
  · exact .inr ⟨g, off, ha, h1, Nat.lt_of_lt_of_le h2 hb.size, fun j u hu => (hb.cell (p := ⟨g, off + j, none⟩) h1).trans (h3 j u hu)⟩
theorem Dst.kept (h : Dst w B a c L) (hb : Below B w w') : Dst w' B a c L := ⟨h.1, h.2.1, h.2.2.kept hb⟩
theorem RunsLie.mono {B' : Nat} (h : RunsLie w B a L) (hB : B ≤ B') : RunsLie w B' a L := by
  rcases h with h | ⟨g, off, ha, h1, h2, h3⟩
  · exact .inl h
  · exact .inr ⟨g, off, ha, by omega, h2, h3⟩
theorem Dst.mono {B' : Nat} (h : Dst w B a c L) (hB : B ≤ B') : Dst w B' a c L := ⟨h.1, h.2.1, h.2.2.mono hB⟩
theorem Dst.cons (h : Dst w B a c (x :: L)) : ∃ g off d, a = some ⟨g, off, none⟩ ∧ c = d + 1 ∧ L.length ≤ d ∧ g < B ∧ g < w.heap.size ∧ w.cell? ⟨g, off, none⟩ = some (.int .i64 x.1) ∧ w.cell? ⟨g, off + 1, none⟩ = some (.int .i64 x.2) ∧ Dst w B (some ⟨g, off + 2, none⟩) d L := by
  obtain ⟨h1, h2, h3⟩ := h
  rw [List.length_cons] at h1
  rcases h3 with h3 | ⟨g, off, ha, q1, q2, q3⟩
  · cases h3
  · refine ⟨g, off, c - 1, ha, by omega, by omega, q1, q2, q3 0 _ rfl, q3 1 _ rfl, by omega, (fun e => by cases e), .inr ⟨g, off + 2, rfl, q1, q2, fun j u hu => ?_⟩⟩
    have := q3 (j + 2) u hu
    rw [show off + 2 + j = off + (j + 2) by omega]
    exact this
theorem Dst.cell (h : Dst w B a c L) (hp : 0 < L.length) : ∃ g off, a = some ⟨g, off, none⟩ ∧ g < B ∧ g < w.heap.size ∧ ∀ i, i < L.length → w.cell? ⟨g, off + i * 2, none⟩ = some (.int .i64 (L.getD i (0, 0)).1) ∧ w.cell? ⟨g, off + (i * 2 + 1), none⟩ = some (.int .i64 ((L.getD i (0, 0)).2)) := by
  rcases h.2.2 with h3 | ⟨g, off, ha, q1, q2, q3⟩
  · rw [h3] at hp; simp at hp
  · exact ⟨g, off, ha, q1, q2, fun i hi => ⟨q3 _ _ (dcells_get0 L i hi), q3 _ _ (dcells_get1 L i hi)⟩⟩
theorem Dst.news (h : Dst w B a c L) : ∀ ad, a = some ad → ∀ j u, (dcells L)[j]? = some u → w.cell? (ad.add j) = some u := by
  intro ad e j u hu
  rcases h.2.2 with h3 | ⟨g, off, ha, q1, q2, q3⟩
  · rw [h3] at hu; cases hu
  · rw [ha] at e
    cases e
    rw [Addr.add_lit]
    exact q3 j u hu
/-- What a call owns is such a list. -/
theorem dst_of_own {S n : Nat} {v : Value} (h : w.ownsRow S 95 2 v n (dcells L)) (hn : n = L.length) : ∃ a c, v = .slice a L.length c ∧ Dst w w.heap.size a c L ∧ c ≤ maxLen := by
  subst hn
  rcases h.2 with ⟨rfl, h0⟩ | ⟨g, cap, cur, rfl, hb, hg, hc, hm, hs, ht⟩
  · exact ⟨none, 0, by rw [h0], ⟨by omega, fun _ => rfl, .inl (List.eq_nil_of_length_eq_zero h0)⟩, Nat.zero_le _⟩
  · refine ⟨_, cap, rfl, ⟨hc, (fun e => by cases e), .inr ⟨g, 0, rfl, block_lt hg, block_lt hg, fun j u hu => ?_⟩⟩, hm⟩
    have hj : j < L.length * 2 := by
      rcases Nat.lt_or_ge j (L.length * 2) with k | k
      · exact k
      · rw [List.getElem?_eq_none (by rw [dcells_length]; exact k)] at hu; cases hu
    rw [Nat.zero_add, h.cellAt j hj]
    exact hu
end

/-- 'append(v, ys...)' of runs. -/
theorem runs_append {w : World} {S : Nat} {v : Value} {xs ys : List (Int × Int)} {ops : Array Oper} {rest : List Oper} {o : Oper} {a : Act} {Q : Exit → Act → World → Prop} (hgd : o.guard = none) (s x : Operand)
    (ho : o.op = .call { callee := .builtin .append, args := #[s, x], argTypes := #[91, 91] }) (hs : a.eval s = v) (h : w.ownsRow S 95 2 v xs.length (dcells xs)) (ao : Option Addr) (m c : Nat) (hx : a.eval x = .slice ao m c) (hm : ys.length = m)
    (hc : ∀ ad, ao = some ad → ∀ j u, (dcells ys)[j]? = some u → w.cell? (ad.add j) = some u) (hn : ao = none → m = 0 ∧ c = 0)
    (h63 : xs.length + ys.length ≤ 100000) (hS : S ≤ w.heap.size)
    (hK : ∀ v' w', w'.ownsRow S 95 2 v' (xs ++ ys).length (dcells (xs ++ ys)) → w.grownBy w' v.ownBlock → wpList Tryz.prog ops Q rest (a.put o.dst v') w') : wpList Tryz.prog ops Q (o :: rest) a w := by
  obtain ⟨i0, hi0, hz0, hz1, hz2⟩ := info_parts info_run
  cases ao with
  | none =>
    obtain ⟨rfl, rfl⟩ := hn rfl
    obtain rfl : ys = [] := List.eq_nil_of_length_eq_zero hm
    refine wpList_append_own_none hgd s x _ ho S 95 i0 2 Tryz.underlying91 hi0 v _ _ hs h hx (hK v w (by simpa using h) ⟨rfl, rfl, rfl, Nat.le_refl _, fun _ _ _ => rfl⟩)
  | some ad =>
    refine wpList_append_own_at w hgd s x _ ho S 95 i0 _ 2 16 Tryz.underlying91 hi0 hz0 hz1 hz2 rfl (by omega) v _ _ hs h ad m c (dcells ys) hx (by rw [dcells_length, hm]) (hc ad rfl) (dcells_one ys) (by unfold maxLen; omega) (by omega) hS ?_
    intro v' w' hown hg _ _
    refine hK v' w' ?_ hg
    rw [List.length_append, dcells_app, hm]
    exact hown

end Go.Proofs.YtbcnlggkoidmmaaGreatDoor

namespace Go.Proofs.YtbcnlggkoidmmaaGreatDoor
open Go.RowKit Go.Joins RunsMath

theorem info_int : (Tryz.prog.info? 3).map (fun i => (i.zero, i.size, i.bytes)) = some (some (.int .i64 0), 1, 8) := by kernel_rfl
/-- The cells of numbers. -/
def ivals (l : List Int) : List Value := l.map fun x => Value.int .i64 x
theorem ivals_length (l : List Int) : (ivals l).length = l.length := by simp [ivals]
theorem ivals_app (xs ys : List Int) : ivals (xs ++ ys) = ivals xs ++ ivals ys := by simp [ivals]
theorem ivals_get (l : List Int) (i : Nat) (h : i < l.length) : (ivals l)[i]? = some (.int .i64 (l.getD i 0)) := by
  unfold ivals
  rw [List.getElem?_map, List.getElem?_eq_getElem h, List.getD_eq_getElem?_getD, List.getElem?_eq_getElem h]
  rfl
theorem ivals_one (l : List Int) : ∀ u ∈ ivals l, u.oneCell' = true := by
  intro u hu
  obtain ⟨x, _, rfl⟩ := List.mem_map.mp hu
  rfl
/-- A list of numbers of the call's own. -/
def NumRow (w : World) (S : Nat) (v : Value) (l : List Int) : Prop := w.ownsRow S 3 1 v l.length (ivals l)
theorem NumRow.empty (w : World) (S : Nat) (h : S ≤ w.heap.size) : NumRow (w.alloc (.cells #[] 3)) S (.slice (some ⟨w.heap.size, 0, none⟩) 0 0) [] :=
  ⟨rfl, .inr ⟨w.heap.size, 0, #[], rfl, h, heap_alloc_new w _, Nat.le_refl _, Nat.zero_le _, rfl, rfl⟩⟩
theorem NumRow.form {w : World} {S : Nat} {v : Value} {l : List Int} (h : NumRow w S v l) : ∃ a c, v = .slice a l.length c ∧ (a = none → c = 0) ∧ l.length ≤ c ∧ Came w a l.length (fun i => l.getD i 0) ∧ ∀ ad, a = some ad → ∀ j u, (ivals l)[j]? = some u → w.cell? (ad.add j) = some u := by
  rcases h.2 with ⟨rfl, h0⟩ | ⟨g, cap, cur, rfl, hb, hg, hc, hm, hs, ht⟩
  · exact ⟨none, 0, by rw [h0], fun _ => rfl, by omega, .inl h0, fun ad e => by cases e⟩
  · refine ⟨_, cap, rfl, (fun e => by cases e), hc, .inr ⟨g, 0, rfl, block_lt hg, fun j hj => ?_⟩, fun ad e j u hu => ?_⟩
    · rw [Nat.zero_add, h.cellAt j (by omega)]
      exact ivals_get l j hj
    · cases e
      have hj : j < l.length := by
        rcases Nat.lt_or_ge j l.length with k | k
        · exact k
        · rw [List.getElem?_eq_none (by rw [ivals_length]; exact k)] at hu; cases hu
      rw [Addr.add_lit, Nat.zero_add, h.cellAt j (by omega)]
      exact hu
theorem NumRow.called {w w' : World} {S : Nat} {v : Value} {l : List Int} (h : NumRow w S v l) (hb : Below w.heap.size w w') : NumRow w' S v l := by
  refine ⟨h.1, ?_⟩
  rcases h.2 with h | ⟨g, cap, cur, rfl, h1, h2, h3⟩
  · exact .inl h
  · exact .inr ⟨g, cap, cur, rfl, h1, (hb.block g (block_lt h2)).trans h2, h3⟩

/-- 'append(v, ys...)' of numbers. -/
theorem nums_append {w : World} {S : Nat} {v : Value} {xs ys : List Int} {ops : Array Oper} {rest : List Oper} {o : Oper} {a : Act} {Q : Exit → Act → World → Prop} (hgd : o.guard = none) (s x : Operand)
    (ho : o.op = .call { callee := .builtin .append, args := #[s, x], argTypes := #[26, 26] }) (hs : a.eval s = v) (h : NumRow w S v xs) (ao : Option Addr) (m c : Nat) (hx : a.eval x = .slice ao m c) (hm : ys.length = m)
    (hc : ∀ ad, ao = some ad → ∀ j u, (ivals ys)[j]? = some u → w.cell? (ad.add j) = some u) (hn : ao = none → m = 0 ∧ c = 0)
    (h63 : xs.length + ys.length ≤ 100000) (hS : S ≤ w.heap.size)
    (hK : ∀ v' w', NumRow w' S v' (xs ++ ys) → w.grownBy w' v.ownBlock → wpList Tryz.prog ops Q rest (a.put o.dst v') w') : wpList Tryz.prog ops Q (o :: rest) a w := by
  obtain ⟨i0, hi0, hz0, hz1, hz2⟩ := info_parts info_int
  cases ao with
  | none =>
    obtain ⟨rfl, rfl⟩ := hn rfl
    obtain rfl : ys = [] := List.eq_nil_of_length_eq_zero hm
    refine wpList_append_own_none hgd s x _ ho S 3 i0 1 Tryz.underlying26 hi0 v _ _ hs h hx (hK v w (by rw [List.append_nil]; exact h) ⟨rfl, rfl, rfl, Nat.le_refl _, fun _ _ _ => rfl⟩)
  | some ad =>
    refine wpList_append_own_at w hgd s x _ ho S 3 i0 _ 1 8 Tryz.underlying26 hi0 hz0 hz1 hz2 rfl (by omega) v _ _ hs h ad m c (ivals ys) hx (by rw [ivals_length, hm, Nat.mul_one]) (hc ad rfl) (ivals_one ys) (by unfold maxLen; omega) (by omega) hS ?_
    intro v' w' hown hg _ _
    refine hK v' w' ?_ hg
    show w'.ownsRow S 3 1 v' (xs ++ ys).length (ivals (xs ++ ys))
    rw [List.length_append, ivals_app, hm]
    exact hown

end Go.Proofs.YtbcnlggkoidmmaaGreatDoor

namespace Go.Proofs.YtbcnlggkoidmmaaGreatDoor
open Go.RowKit Go.Joins

theorem nums_append1 {w : World} {S : Nat} {v : Value} {xs : List Int} {ops : Array Oper} {rest : List Oper} {o : Oper} {a : Act} {Q : Exit → Act → World → Prop} (hgd : o.guard = none) (s x : Operand)
    (ho : o.op = .call { callee := .builtin .append, args := #[s, x], argTypes := #[26, 26] }) (hs : a.eval s = v) (h : NumRow w S v xs) (g c : Nat) (y : Int) (hx : a.eval x = .slice (some ⟨g, 0, none⟩) 1 c) (hy : w.cell? ⟨g, 0, none⟩ = some (.int .i64 y))
    (h63 : xs.length ≤ 100000) (hS : S ≤ w.heap.size)
    (hK : ∀ v' w', NumRow w' S v' (xs ++ [y]) → w.grownBy w' v.ownBlock → (v'.ownBlock = v.ownBlock ∨ v'.ownBlock = some w.heap.size) → wpList Tryz.prog ops Q rest (a.put o.dst v') w') : wpList Tryz.prog ops Q (o :: rest) a w := by
  obtain ⟨i0, hi0, hz0, hz1, hz2⟩ := info_parts info_int
  refine wpList_append_own_at w hgd s x _ ho S 3 i0 _ 1 8 Tryz.underlying26 hi0 hz0 hz1 hz2 rfl (by omega) v _ _ hs h ⟨g, 0, none⟩ 1 c (ivals [y]) hx rfl (fun j u hu => ?_) (ivals_one _) (by unfold maxLen; omega) (by omega) hS ?_
  · cases j with
    | zero =>
      simp [ivals] at hu
      rw [← hu]
      exact hy
    | succ j => simp [ivals] at hu
  · intro v' w' hown hg _ hk
    refine hK v' w' ?_ hg hk
    show w'.ownsRow S 3 1 v' (xs ++ [y]).length (ivals (xs ++ [y]))
    rw [List.length_append, ivals_app]
    exact hown
end Go.Proofs.YtbcnlggkoidmmaaGreatDoor

namespace Go.Proofs.YtbcnlggkoidmmaaGreatDoor
open Go.RowKit

theorem ret_i {k : IntKind} {a b : Int} (h : a = b) : Ending.returned (.int k a) = .returned (.int k b) := by rw [h]
theorem ret_b {a b : Bool} (h : a = b) : Ending.returned (.bool a) = .returned (.bool b) := by rw [h]

end Go.Proofs.YtbcnlggkoidmmaaGreatDoor

namespace Go.Proofs.YtbcnlggkoidmmaaGreatDoor
open Go.RowKit Go.Joins TakeMath

theorem index_byte (s : ByteArray) (i : Nat) (h : i < s.size) (w : World) : (Instr.index 9 (.string s) (.int .i64 i)).run Tryz.prog w = .ok (.int .u8 (byteAt s i)) w := by
  rw [run_index_string w 9 s .i64 _ Tryz.underlying9, dif_pos ⟨by omega, by omega⟩]
  have e : ((i : Int)).toNat = i := by omega
  simp only [e]
  rw [byteAt_get]

theorem index_byteI (s : ByteArray) (x : Int) (i : Nat) (hx : x = i) (h : i < s.size) (w : World) : (Instr.index 9 (.string s) (.int .i64 x)).run Tryz.prog w = .ok (.int .u8 (byteAt s i)) w := by
  subst hx
  exact index_byte s i h w

end Go.Proofs.YtbcnlggkoidmmaaGreatDoor

namespace Go.Proofs.YtbcnlggkoidmmaaGreatDoor
open Go.RowKit Go.Joins OutMath CodeMath TakeMath HitMath WayMath InfMath

section
variable {w w' : World} {b : Nat} {s : ByteArray} {p : Nat} {vo : Value} {most c : Nat} {vt : Value}
theorem grown_called (hb : Below w.heap.size w w') (row : Option Nat) : w.grownBy w' row := ⟨hb.os, hb.tape, hb.output, hb.size, fun k hk _ => hb.block k hk⟩
theorem grown_cell (w : World) (b o : Nat) (v : Value) : w.grownBy (w.setCell ⟨b, o, none⟩ v) (some b) :=
  ⟨rfl, rfl, rfl, by simp [World.setCell], fun i _ hi => by simp [World.setCell, Array.getElem?_modify, show ¬ b = i from fun e => hi (by rw [e])]⟩
end

/-- What taking a symbol comes to. -/
noncomputable def symR (f : Nat → Int) (n : Nat) (s : ByteArray) (p c : Nat) : Nat × Nat × Nat := if c ≠ 0 then (0, p, c) else if (symW f n s p).2.2 = 0 then ((symW f n s p).1, p + (symW f n s p).2.1, 0) else if (symW f n s p).2.2 = 2 then (0, p, 2) else (0, p, 6)

end Go.Proofs.YtbcnlggkoidmmaaGreatDoor

namespace Go.Proofs.YtbcnlggkoidmmaaGreatDoor
open Go.RowKit Go.Joins TokMath InfMath

/-- The row of bytes v holds O. -/
def OR (w : World) (base : Nat) (v : Value) (O : List Int) : Prop := w.ownsRow base 5 1 v O.length (u8l O)
theorem OR.form {w : World} {base : Nat} {v : Value} {O : List Int} (h : OR w base v O) : ∃ a c, v = .slice a O.length c := by
  rcases h.2 with ⟨rfl, h0⟩ | ⟨g, cap, cur, rfl, _⟩
  · exact ⟨none, 0, by rw [h0]⟩
  · exact ⟨_, cap, rfl⟩
theorem OR.cell {w : World} {base : Nat} {v : Value} {O : List Int} (h : OR w base v O) {j : Nat} (hj : j < O.length) : ∃ g cap, v = .slice (some ⟨g, 0, none⟩) O.length cap ∧ g < w.heap.size ∧ w.cell? ⟨g, j, none⟩ = some (.int .u8 (O.getD j 0)) := by
  have h' : w.ownsRow base 5 1 v O.length (u8l O) := h
  obtain ⟨g, cap, rfl, hb, hg⟩ := World.ownsRow.form h' (by omega)
  refine ⟨g, cap, rfl, hg, ?_⟩
  rw [World.ownsRow.cellAt h' j (by omega)]
  unfold u8l
  rw [List.getElem?_map, List.getElem?_eq_getElem hj, List.getD_eq_getElem?_getD, List.getElem?_eq_getElem hj]
  rfl

section
variable {w0 w w' : World} {b : Nat} {s : ByteArray} {p : Nat} {O : List Int} {most c : Nat} {Ty : List Int} {vo vt : Value}
end

end Go.Proofs.YtbcnlggkoidmmaaGreatDoor

namespace Go.Proofs.YtbcnlggkoidmmaaGreatDoor
open Go.RowKit Go.Joins TokMath

theorem NumRow.nil (w : World) (S : Nat) : NumRow w S (.slice none 0 0) [] := ⟨rfl, .inl ⟨rfl, rfl⟩⟩
theorem OR.nil (w : World) (S : Nat) : OR w S (.slice none 0 0) [] := ⟨rfl, .inl ⟨rfl, rfl⟩⟩
theorem bytes_append1 {w : World} {S : Nat} {v : Value} {xs : List Int} {ops : Array Oper} {rest : List Oper} {o : Oper} {a : Act} {Q : Exit → Act → World → Prop} (hgd : o.guard = none) (s x : Operand)
    (ho : o.op = .call { callee := .builtin .append, args := #[s, x], argTypes := #[22, 22] }) (hs : a.eval s = v) (h : OR w S v xs) (g c : Nat) (y : Int) (hx : a.eval x = .slice (some ⟨g, 0, none⟩) 1 c) (hy : w.cell? ⟨g, 0, none⟩ = some (.int .u8 y))
    (h63 : xs.length ≤ 100000) (hS : S ≤ w.heap.size)
    (hK : ∀ v' w', OR w' S v' (xs ++ [y]) → w.grownBy w' v.ownBlock → (v'.ownBlock = v.ownBlock ∨ v'.ownBlock = some w.heap.size) → wpList Tryz.prog ops Q rest (a.put o.dst v') w') : wpList Tryz.prog ops Q (o :: rest) a w := by
  obtain ⟨i0, hi0, hz0, hz1, hz2⟩ := info_parts info_byte
  refine wpList_append_own_at w hgd s x _ ho S 5 i0 _ 1 1 Tryz.underlying22 hi0 hz0 hz1 hz2 rfl (by omega) v _ _ hs h ⟨g, 0, none⟩ 1 c [.int .u8 y] hx rfl (fun j u hu => ?_) (fun u hu => ?_) (by unfold maxLen; omega) (by omega) hS ?_
  · cases j with
    | zero =>
      simp at hu
      rw [← hu]
      exact hy
    | succ j => simp at hu
  · rw [List.mem_singleton.1 hu]
    rfl
  · intro v' w' hown hg _ hk
    refine hK v' w' ?_ hg hk
    show w'.ownsRow S 5 1 v' (xs ++ [y]).length (u8l (xs ++ [y]))
    rw [List.length_append, ← u8l_app]
    exact hown
end Go.Proofs.YtbcnlggkoidmmaaGreatDoor

namespace Go.Proofs.YtbcnlggkoidmmaaGreatDoor
open Go.RowKit Go.Joins

/-- Block b is a reader of the text s that stands at bit a. -/
def Rd (w : World) (b : Nat) (s : ByteArray) (a : Int) : Prop := w.heap[b]? = some (.cells #[.string s, .int .i64 a] 84 (0, 0))
theorem Rd.c0 {w : World} {b : Nat} {s : ByteArray} {a : Int} (h : Rd w b s a) : w.cell? ⟨b, 0, none⟩ = some (.string s) := cell_of_block h 0
theorem Rd.c1 {w : World} {b : Nat} {s : ByteArray} {a : Int} (h : Rd w b s a) : w.cell? ⟨b, 1, none⟩ = some (.int .i64 a) := cell_of_block h 1
theorem Rd.f {w : World} {b : Nat} {s : ByteArray} {a : Int} (h : Rd w b s a) (i : Nat) : w.frozen? ⟨b, i, none⟩ = false := unfrozen_of_block h i
theorem Rd.set {w : World} {b : Nat} {s : ByteArray} {a : Int} (h : Rd w b s a) (x : Int) : Rd (w.setCell ⟨b, 1, none⟩ (.int .i64 x)) b s x := by
  have := block_setCell (i := 1) h (.int .i64 x)
  simpa [Rd] using this
theorem Rd.lt {w : World} {b : Nat} {s : ByteArray} {a : Int} (h : Rd w b s a) : b < w.heap.size := by
  rcases Nat.lt_or_ge b w.heap.size with k | k
  · exact k
  · unfold Rd at h; rw [Array.getElem?_eq_none k] at h; cases h

end Go.Proofs.YtbcnlggkoidmmaaGreatDoor

namespace Go.Proofs.YtbcnlggkoidmmaaGreatDoor
open Go.RowKit Go.Joins TokMath

/-- The record lies in block fb. -/
def FB (w : World) (fb rb : Nat) (vo : Value) (most : Nat) (vt : Value) : Prop := w.heap[fb]? = some (.cells #[.pointer (some ⟨rb, 0, none⟩), vo, .int .i64 (most : Int), vt] 81 (0, 0))
section
variable {w w' : World} {fb rb : Nat} {vo : Value} {most : Nat} {vt : Value}
theorem FB.lt (h : FB w fb rb vo most vt) : fb < w.heap.size := block_lt h
theorem FB.cells (h : FB w fb rb vo most vt) : w.cell? ⟨fb, 0, none⟩ = some (.pointer (some ⟨rb, 0, none⟩)) ∧ w.cell? ⟨fb, 1, none⟩ = some vo ∧ w.cell? ⟨fb, 2, none⟩ = some (.int .i64 (most : Int)) ∧ w.cell? ⟨fb, 3, none⟩ = some vt :=
  ⟨(cell_of_block h 0).trans rfl, (cell_of_block h 1).trans rfl, (cell_of_block h 2).trans rfl, (cell_of_block h 3).trans rfl⟩
theorem FB.free (h : FB w fb rb vo most vt) (q : Nat) : w.frozen? ⟨fb, q, none⟩ = false := by
  unfold FB at h
  simp [World.frozen?, h]
theorem FB.made (h : FB w fb rb vo most vt) (v : Value) : FB (w.setCell ⟨fb, 1, none⟩ v) fb rb v most vt := by
  have := block_setCell (i := 1) h v
  unfold FB
  simpa using this
theorem FB.types (h : FB w fb rb vo most vt) (v : Value) : FB (w.setCell ⟨fb, 3, none⟩ v) fb rb vo most v := by
  have := block_setCell (i := 3) h v
  unfold FB
  simpa using this
end

/-- A block that no step of the unpacking turns. -/
def Safe (w : World) (fb rb : Nat) (vo vt : Value) (k : Nat) : Prop := k < w.heap.size ∧ k ≠ fb ∧ k ≠ rb ∧ vo.ownBlock ≠ some k ∧ vt.ownBlock ≠ some k
/-- A step: it leaves those alone, and they stay such. -/
structure Step (fb rb : Nat) (w : World) (vo vt : Value) (w' : World) (vo' vt' : Value) : Prop where
  os : w'.os = w.os
  tape : w'.tape = w.tape
  output : w'.output = w.output
  size : w.heap.size ≤ w'.heap.size
  block : ∀ k, Safe w fb rb vo vt k → Safe w' fb rb vo' vt' k ∧ w'.heap[k]? = w.heap[k]?
section
variable {fb rb : Nat} {w w1 w' : World} {vo vt vo1 vt1 vo' vt' : Value}
theorem Step.refl (w : World) : Step fb rb w vo vt w vo vt := ⟨rfl, rfl, rfl, Nat.le_refl _, fun _ h => ⟨h, rfl⟩⟩
theorem Step.trans (h : Step fb rb w vo vt w1 vo1 vt1) (k : Step fb rb w1 vo1 vt1 w' vo' vt') : Step fb rb w vo vt w' vo' vt' :=
  ⟨k.os.trans h.os, k.tape.trans h.tape, k.output.trans h.output, Nat.le_trans h.size k.size, fun i hi => ⟨(k.block i (h.block i hi).1).1, (k.block i (h.block i hi).1).2.trans (h.block i hi).2⟩⟩
/-- What turns one block that is the record's or the reader's, or none of the old ones. -/
theorem Step.one {row : Option Nat} (hg : w.grownBy w' row) (hr : ∀ k, row = some k → k = fb ∨ k = rb ∨ vo.ownBlock = some k ∨ vt.ownBlock = some k) : Step fb rb w vo vt w' vo vt :=
  ⟨hg.os, hg.tape, hg.output, hg.size, fun k h => ⟨⟨Nat.lt_of_lt_of_le h.1 hg.size, h.2⟩, hg.block k h.1 (fun e => by
    rcases hr k e.symm with q | q | q | q
    · exact h.2.1 q
    · exact h.2.2.1 q
    · exact h.2.2.2.1 q
    · exact h.2.2.2.2 q)⟩⟩
theorem Step.called (hb : Below w.heap.size w w') : Step fb rb w vo vt w' vo vt := ⟨hb.os, hb.tape, hb.output, hb.size, fun k h => ⟨⟨Nat.lt_of_lt_of_le h.1 hb.size, h.2⟩, hb.block k h.1⟩⟩
/-- The bytes lie elsewhere. -/
theorem Step.made (h : Step fb rb w vo vt w' vo vt) (hv : ∀ k, vo'.ownBlock = some k → vo.ownBlock = some k ∨ w.heap.size ≤ k) : Step fb rb w vo vt w' vo' vt :=
  ⟨h.os, h.tape, h.output, h.size, fun k hk => ⟨⟨(h.block k hk).1.1, hk.2.1, hk.2.2.1, fun e => by
    rcases hv k e with q | q
    · exact hk.2.2.2.1 q
    · have := hk.1
      omega, hk.2.2.2.2⟩, (h.block k hk).2⟩⟩
theorem Step.types (h : Step fb rb w vo vt w' vo vt) (hv : ∀ k, vt'.ownBlock = some k → vt.ownBlock = some k ∨ w.heap.size ≤ k) : Step fb rb w vo vt w' vo vt' :=
  ⟨h.os, h.tape, h.output, h.size, fun k hk => ⟨⟨(h.block k hk).1.1, hk.2.1, hk.2.2.1, hk.2.2.2.1, fun e => by
    rcases hv k e with q | q
    · exact hk.2.2.2.2 q
    · have := hk.1
      omega⟩, (h.block k hk).2⟩⟩
end

/-- The whole state. -/
def PS (B : Nat) (w : World) (fb rb : Nat) (s : ByteArray) (p : Nat) (O : List Int) (most : Nat) (Ty : List Int) (vo vt : Value) : Prop :=
  FB w fb rb vo most vt ∧ Rd w rb s (p : Int) ∧ OR w B vo O ∧ NumRow w B vt Ty ∧ (vo.ownBlock = none ∨ vo.ownBlock ≠ vt.ownBlock) ∧ (vo.ownBlock ≠ some fb ∧ vt.ownBlock ≠ some fb) ∧ (vo.ownBlock ≠ some rb ∧ vt.ownBlock ≠ some rb) ∧ fb ≠ rb ∧ B ≤ fb ∧ B ≤ rb ∧ B ≤ w.heap.size
section
variable {B : Nat} {w w1 w' : World} {fb rb : Nat} {s : ByteArray} {p : Nat} {O : List Int} {most : Nat} {Ty : List Int} {vo vt : Value}
theorem PS.ltf (h : PS B w fb rb s p O most Ty vo vt) : fb < w.heap.size := h.1.lt
theorem PS.ltr (h : PS B w fb rb s p O most Ty vo vt) : rb < w.heap.size := h.2.1.lt
/-- What lies ahead of all is safe. -/
theorem PS.safe (h : PS B w fb rb s p O most Ty vo vt) {k : Nat} (hk : k < B) : Safe w fb rb vo vt k := by
  obtain ⟨h1, h2, h3, h4, h5, h6, h7, h8, h9, h10, h11⟩ := h
  refine ⟨by omega, by omega, by omega, fun e => ?_, fun e => ?_⟩
  · have := (World.ownsRow.lt h3 k e).1
    omega
  · have := (World.ownsRow.lt h4 k e).1
    omega
theorem PS.below {vo' vt' : Value} (h : PS B w fb rb s p O most Ty vo vt) (hs : Step fb rb w vo vt w' vo' vt') : Below B w w' := ⟨hs.os, hs.tape, hs.output, hs.size, fun k hk => (hs.block k (h.safe hk)).2⟩
/-- The reader alone is turned. -/
theorem PS.read {q : Nat} (h : PS B w fb rb s p O most Ty vo vt) (hr : Rd w' rb s (q : Int)) (hg : w.grownBy w' (some rb)) : PS B w' fb rb s q O most Ty vo vt := by
  obtain ⟨h1, h2, h3, h4, h5, h6, h7, h8, h9, h10, h11⟩ := h
  exact ⟨(hg.block fb h1.lt (fun e => h8 (by cases e; rfl))).trans h1, hr, World.ownsRow.kept h3 hg (.inr h7.1), World.ownsRow.kept h4 hg (.inr h7.2), h5, h6, h7, h8, h9, h10, Nat.le_trans h11 hg.size⟩
theorem PS.called (h : PS B w fb rb s p O most Ty vo vt) (hb : Below w.heap.size w w') : PS B w' fb rb s p O most Ty vo vt := h.read ((hb.block rb h.ltr).trans h.2.1) (grown_called hb _)
/-- A block that is none of its own is turned. -/
theorem PS.other {row : Option Nat} (h : PS B w fb rb s p O most Ty vo vt) (hg : w.grownBy w' row) (hr : ∀ k, row = some k → k ≠ fb ∧ k ≠ rb ∧ vo.ownBlock ≠ some k ∧ vt.ownBlock ≠ some k) : PS B w' fb rb s p O most Ty vo vt := by
  obtain ⟨h1, h2, h3, h4, h5, h6, h7, h8, h9, h10, h11⟩ := h
  have ne : ∀ v : Value, (∀ k, row = some k → v.ownBlock ≠ some k) → v.ownBlock = none ∨ v.ownBlock ≠ row := fun v hv => by
    cases e : row with
    | none =>
      cases e2 : v.ownBlock with
      | none => exact .inl rfl
      | some k => exact .inr (fun q => by cases q)
    | some k => exact .inr (hv k e)
  exact ⟨(hg.block fb h1.lt (fun e => (hr fb e.symm).1 rfl)).trans h1, (hg.block rb h2.lt (fun e => (hr rb e.symm).2.1 rfl)).trans h2, World.ownsRow.kept h3 hg (ne vo fun k e => (hr k e).2.2.1), World.ownsRow.kept h4 hg (ne vt fun k e => (hr k e).2.2.2), h5, h6, h7, h8, h9, h10, Nat.le_trans h11 hg.size⟩
/-- Bytes are put behind: the row, then the record. -/
theorem PS.made {O' : List Int} {v' : Value} (h : PS B w fb rb s p O most Ty vo vt) (y1 : OR w1 B v' O') (y2 : w.grownBy w1 vo.ownBlock) (y3 : v'.ownBlock = vo.ownBlock ∨ ∀ k, v'.ownBlock = some k → w.heap.size ≤ k) :
    FB w1 fb rb vo most vt ∧ PS B (w1.setCell ⟨fb, 1, none⟩ v') fb rb s p O' most Ty v' vt ∧ Step fb rb w vo vt (w1.setCell ⟨fb, 1, none⟩ v') v' vt := by
  obtain ⟨h1, h2, h3, h4, h5, h6, h7, h8, h9, h10, h11⟩ := h
  have k1 : FB w1 fb rb vo most vt := (y2.block fb h1.lt (fun e => h6.1 e.symm)).trans h1
  have k2 : Rd w1 rb s (p : Int) := (y2.block rb h2.lt (fun e => h7.1 e.symm)).trans h2
  have hvt : vt.ownBlock = none ∨ vt.ownBlock ≠ vo.ownBlock := by
    cases e : vt.ownBlock with
    | none => exact .inl rfl
    | some k =>
      refine .inr (fun e1 => ?_)
      rcases h5 with q | q
      · rw [q] at e1
        cases e1
      · exact q (by rw [← e1, e])
  have ne : ∀ k, (vo.ownBlock ≠ some k) → k < w.heap.size → v'.ownBlock ≠ some k := fun k hk hl e => by
    rcases y3 with q | q
    · exact hk (by rw [← q]; exact e)
    · have := q k e
      omega
  have hgs := grown_cell w1 fb 1 v'
  have f1 := ne fb h6.1 h1.lt
  have f2 := ne rb h7.1 h2.lt
  refine ⟨k1, ⟨k1.made v', (hgs.block rb k2.lt (fun e => h8 (by cases e; rfl))).trans k2, World.ownsRow.kept y1 hgs (.inr f1), World.ownsRow.kept (World.ownsRow.kept h4 y2 hvt) hgs (.inr h6.2), ?_, ⟨f1, h6.2⟩, ⟨f2, h7.2⟩, h8, h9, h10, Nat.le_trans h11 (Nat.le_trans y2.size hgs.size)⟩, ?_⟩
  · cases e : v'.ownBlock with
    | none => exact .inl rfl
    | some k =>
      refine .inr (fun e1 => ?_)
      rcases y3 with q | q
      · rcases hvt with q1 | q1
        · rw [q1] at e1
          cases e1
        · exact q1 (by rw [← e1, ← e, q])
      · have l1 := q k e
        have l2 := (World.ownsRow.lt h4 k e1.symm).2
        omega
  · have s1 : Step fb rb w vo vt w1 vo vt := Step.one y2 (fun k e => .inr (.inr (.inl e)))
    have s2 : Step fb rb w1 vo vt (w1.setCell ⟨fb, 1, none⟩ v') vo vt := Step.one hgs (fun k e => .inl (by cases e; rfl))
    refine Step.made (s1.trans s2) (fun k e => ?_)
    rcases y3 with q | q
    · exact .inl (by rw [← q]; exact e)
    · exact .inr (q k e)
/-- A type is put behind. -/
theorem PS.typed {Ty' : List Int} {v' : Value} (h : PS B w fb rb s p O most Ty vo vt) (y1 : NumRow w1 B v' Ty') (y2 : w.grownBy w1 vt.ownBlock) (y3 : v'.ownBlock = vt.ownBlock ∨ ∀ k, v'.ownBlock = some k → w.heap.size ≤ k) :
    FB w1 fb rb vo most vt ∧ PS B (w1.setCell ⟨fb, 3, none⟩ v') fb rb s p O most Ty' vo v' ∧ Step fb rb w vo vt (w1.setCell ⟨fb, 3, none⟩ v') vo v' := by
  obtain ⟨h1, h2, h3, h4, h5, h6, h7, h8, h9, h10, h11⟩ := h
  have k1 : FB w1 fb rb vo most vt := (y2.block fb h1.lt (fun e => h6.2 e.symm)).trans h1
  have k2 : Rd w1 rb s (p : Int) := (y2.block rb h2.lt (fun e => h7.2 e.symm)).trans h2
  have ne : ∀ k, (vt.ownBlock ≠ some k) → k < w.heap.size → v'.ownBlock ≠ some k := fun k hk hl e => by
    rcases y3 with q | q
    · exact hk (by rw [← q]; exact e)
    · have := q k e
      omega
  have hgs := grown_cell w1 fb 3 v'
  have f1 := ne fb h6.2 h1.lt
  have f2 := ne rb h7.2 h2.lt
  refine ⟨k1, ⟨k1.types v', (hgs.block rb k2.lt (fun e => h8 (by cases e; rfl))).trans k2, World.ownsRow.kept (World.ownsRow.kept h3 y2 h5) hgs (.inr h6.1), World.ownsRow.kept y1 hgs (.inr f1), ?_, ⟨h6.1, f1⟩, ⟨h7.1, f2⟩, h8, h9, h10, Nat.le_trans h11 (Nat.le_trans y2.size hgs.size)⟩, ?_⟩
  · cases e : vo.ownBlock with
    | none => exact .inl rfl
    | some k =>
      refine .inr (fun e1 => ?_)
      rcases y3 with q | q
      · rcases h5 with q1 | q1
        · rw [q1] at e
          cases e
        · exact q1 (by rw [e, e1, q])
      · have l1 := q k e1.symm
        have l2 := (World.ownsRow.lt h3 k e).2
        omega
  · have s1 : Step fb rb w vo vt w1 vo vt := Step.one y2 (fun k e => .inr (.inr (.inr e)))
    have s2 : Step fb rb w1 vo vt (w1.setCell ⟨fb, 3, none⟩ v') vo vt := Step.one hgs (fun k e => .inl (by cases e; rfl))
    refine Step.types (s1.trans s2) (fun k e => ?_)
    rcases y3 with q | q
    · exact .inl (by rw [← q]; exact e)
    · exact .inr (q k e)
end
/-- The error that carries a code. -/
abbrev errV (c : Nat) : Value := .iface 142 (.agg #[.int .i64 (c : Int)])

end Go.Proofs.YtbcnlggkoidmmaaGreatDoor
