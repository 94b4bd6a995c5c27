/-
  Lists of pairs of numbers (Runs) in memory. Nothing here speaks of the program but the numbers of its types.
  The walks of what Runs tell in the document's model, and of lists of numbers of a call's own.
  What is handed back, by its number. Nothing here speaks of the program.
  The walk of the model's powers of two.
  An unpacking under way in the document's model: its record; how bits and symbols are taken of it.
  append of one element onto a list of numbers or bytes of the call's own, and where the row lies behind it.
  Plain facts on the counts of lengths, and on what they are full to; nothing here speaks of the program.
-/
import Derived.Test.YtbcnlggkoidmmaaGreatDoorRows
import Derived.Test.YtbcnlggkoidmmaaGreatDoorPk01
import Derived.Test.YtbcnlggkoidmmaaGreatDoorPk06
import Derived.Test.YtbcnlggkoidmmaaGreatDoorPk07
import Derived.Test.YtbcnlggkoidmmaaGreatDoorPk05
import Derived.Test.YtbcnlggkoidmmaaGreatDoorPk02
import Derived.WalkKit
import Derived.ProofKit
import Derived.Below
import Derived.OwnWalk
import Derived.Deep.AppendLies
import Derived.Maps.AppendAt
import Derived.Laws.AppendOwnNone
import Derived.Lib.SmallJoins
import Derived.WalkLawsBesides
import Derived.Deep.LoopGhost
import Derived.Deep.QuietTactic
import Derived.BigQuiet
import Derived.RegionTactic
import Derived.BigRegion
import Derived.Laws.AppendOwn
import Derived.Laws.OwnMore
namespace Go.Proofs.YtbcnlggkoidmmaaGreatDoor
open Go.RowKit Go.Joins

theorem info_run : (Tryz.prog.info? 95).map (fun i => (i.zero, i.size, i.bytes)) = some (some (.agg #[.int .i64 0, .int .i64 0]), 2, 16) := by kernel_rfl

/-- The cells of runs. -/
def dcells : List (Int × Int) → List Value
  | [] => []
  | c :: l => .int .i64 c.1 :: .int .i64 c.2 :: dcells l
theorem dcells_length : ∀ l : List (Int × Int), (dcells l).length = l.length * 2
  | [] => rfl
  | c :: l => by
    show (dcells l).length + 1 + 1 = (l.length + 1) * 2
    rw [dcells_length l]
    omega
theorem dcells_app : ∀ xs ys : List (Int × Int), dcells (xs ++ ys) = dcells xs ++ dcells ys
  | [], ys => rfl
  | c :: l, ys => by
    show Value.int .i64 c.1 :: .int .i64 c.2 :: dcells (l ++ ys) = Value.int .i64 c.1 :: .int .i64 c.2 :: (dcells l ++ dcells ys)
    rw [dcells_app l ys]
theorem dcells_get0 : ∀ (l : List (Int × Int)) (i : Nat), i < l.length → (dcells l)[i * 2]? = some (.int .i64 (l.getD i (0, 0)).1)
  | [], i, h => by simp at h
  | c :: l, 0, _ => rfl
  | c :: l, i + 1, h => by
    rw [show (i + 1) * 2 = i * 2 + 1 + 1 by omega]
    show (dcells l)[i * 2]? = some (.int .i64 (l.getD i (0, 0)).1)
    exact dcells_get0 l i (by simpa using h)
theorem dcells_get1 : ∀ (l : List (Int × Int)) (i : Nat), i < l.length → (dcells l)[i * 2 + 1]? = some (.int .i64 ((l.getD i (0, 0)).2))
  | [], i, h => by simp at h
  | c :: l, 0, _ => rfl
  | c :: l, i + 1, h => by
    rw [show (i + 1) * 2 + 1 = i * 2 + 1 + 1 + 1 by omega]
    show (dcells l)[i * 2 + 1]? = some (.int .i64 ((l.getD i (0, 0)).2))
    exact dcells_get1 l i (by simpa using h)
theorem dcells_one : ∀ (l : List (Int × Int)), ∀ u ∈ dcells l, u.oneCell' = true
  | [], u, h => by cases h
  | c :: l, u, h => by
    rcases List.mem_cons.mp h with rfl | h
    · rfl
    · rcases List.mem_cons.mp h with rfl | h
      · rfl
      · exact dcells_one l u h

/-- The Runs L lie at a, in a block below B. -/
def RunsLie (w : World) (B : Nat) (a : Option Addr) (L : List (Int × Int)) : Prop :=
  L = [] ∨ ∃ g off, a = some ⟨g, off, none⟩ ∧ g < B ∧ g < w.heap.size ∧ ∀ j u, (dcells L)[j]? = some u → w.cell? ⟨g, off + j, none⟩ = some u
/-- A slice of them. -/
def Dst (w : World) (B : Nat) (a : Option Addr) (c : Nat) (L : List (Int × Int)) : Prop := L.length ≤ c ∧ (a = none → c = 0) ∧ RunsLie w B a L

section
variable {w w' : World} {B : Nat} {a : Option Addr} {c : Nat} {L : List (Int × Int)} {x : Int × Int}
theorem RunsLie.kept (h : RunsLie w B a L) (hb : Below B w w') : RunsLie w' B a L := by
  rcases h with h | ⟨g, off, ha, h1, h2, h3⟩
  · exact .inl h
  · exact .inr ⟨g, off, ha, h1, Nat.lt_of_lt_of_le h2 hb.size, fun j u hu => (hb.cell (p := ⟨g, off + j, none⟩) h1).trans (h3 j u hu)⟩
theorem Dst.kept (h : Dst w B a c L) (hb : Below B w w') : Dst w' B a c L := ⟨h.1, h.2.1, h.2.2.kept hb⟩
theorem RunsLie.mono {B' : Nat} (h : RunsLie w B a L) (hB : B ≤ B') : RunsLie w B' a L := by
  rcases h with h | ⟨g, off, ha, h1, h2, h3⟩
  · exact .inl h
  · exact .inr ⟨g, off, ha, by omega, h2, h3⟩
theorem Dst.mono {B' : Nat} (h : Dst w B a c L) (hB : B ≤ B') : Dst w B' a c L := ⟨h.1, h.2.1, h.2.2.mono hB⟩
theorem Dst.cons (h : Dst w B a c (x :: L)) : ∃ g off d, a = some ⟨g, off, none⟩ ∧ c = d + 1 ∧ L.length ≤ d ∧ g < B ∧ g < w.heap.size ∧ w.cell? ⟨g, off, none⟩ = some (.int .i64 x.1) ∧ w.cell? ⟨g, off + 1, none⟩ = some (.int .i64 x.2) ∧ Dst w B (some ⟨g, off + 2, none⟩) d L := by
  obtain ⟨h1, h2, h3⟩ := h
  rw [List.length_cons] at h1
  rcases h3 with h3 | ⟨g, off, ha, q1, q2, q3⟩
  · cases h3
  · refine ⟨g, off, c - 1, ha, by omega, by omega, q1, q2, q3 0 _ rfl, q3 1 _ rfl, by omega, (fun e => by cases e), .inr ⟨g, off + 2, rfl, q1, q2, fun j u hu => ?_⟩⟩
    have := q3 (j + 2) u hu
    rw [show off + 2 + j = off + (j + 2) by omega]
    exact this
theorem Dst.cell (h : Dst w B a c L) (hp : 0 < L.length) : ∃ g off, a = some ⟨g, off, none⟩ ∧ g < B ∧ g < w.heap.size ∧ ∀ i, i < L.length → w.cell? ⟨g, off + i * 2, none⟩ = some (.int .i64 (L.getD i (0, 0)).1) ∧ w.cell? ⟨g, off + (i * 2 + 1), none⟩ = some (.int .i64 ((L.getD i (0, 0)).2)) := by
  rcases h.2.2 with h3 | ⟨g, off, ha, q1, q2, q3⟩
  · rw [h3] at hp; simp at hp
  · exact ⟨g, off, ha, q1, q2, fun i hi => ⟨q3 _ _ (dcells_get0 L i hi), q3 _ _ (dcells_get1 L i hi)⟩⟩
theorem Dst.news (h : Dst w B a c L) : ∀ ad, a = some ad → ∀ j u, (dcells L)[j]? = some u → w.cell? (ad.add j) = some u := by
  intro ad e j u hu
  rcases h.2.2 with h3 | ⟨g, off, ha, q1, q2, q3⟩
  · rw [h3] at hu; cases hu
  · rw [ha] at e
    cases e
    rw [Addr.add_lit]
    exact q3 j u hu
/-- What a call owns is such a list. -/
theorem dst_of_own {S n : Nat} {v : Value} (h : w.ownsRow S 95 2 v n (dcells L)) (hn : n = L.length) : ∃ a c, v = .slice a L.length c ∧ Dst w w.heap.size a c L ∧ c ≤ maxLen := by
  subst hn
  rcases h.2 with ⟨rfl, h0⟩ | ⟨g, cap, cur, rfl, hb, hg, hc, hm, hs, ht⟩
  · exact ⟨none, 0, by rw [h0], ⟨by omega, fun _ => rfl, .inl (List.eq_nil_of_length_eq_zero h0)⟩, Nat.zero_le _⟩
  · refine ⟨_, cap, rfl, ⟨hc, (fun e => by cases e), .inr ⟨g, 0, rfl, block_lt hg, block_lt hg, fun j u hu => ?_⟩⟩, hm⟩
    have hj : j < L.length * 2 := by
      rcases Nat.lt_or_ge j (L.length * 2) with k | k
      · exact k
      · rw [List.getElem?_eq_none (by rw [dcells_length]; exact k)] at hu; cases hu
    rw [Nat.zero_add, h.cellAt j hj]
    exact hu
end

/-- 'append(v, ys...)' of runs. -/
theorem runs_append {w : World} {S : Nat} {v : Value} {xs ys : List (Int × Int)} {ops : Array Oper} {rest : List Oper} {o : Oper} {a : Act} {Q : Exit → Act → World → Prop} (hgd : o.guard = none) (s x : Operand)
    (ho : o.op = .call { callee := .builtin .append, args := #[s, x], argTypes := #[91, 91] }) (hs : a.eval s = v) (h : w.ownsRow S 95 2 v xs.length (dcells xs)) (ao : Option Addr) (m c : Nat) (hx : a.eval x = .slice ao m c) (hm : ys.length = m)
    (hc : ∀ ad, ao = some ad → ∀ j u, (dcells ys)[j]? = some u → w.cell? (ad.add j) = some u) (hn : ao = none → m = 0 ∧ c = 0)
    (h63 : xs.length + ys.length ≤ 100000) (hS : S ≤ w.heap.size)
    (hK : ∀ v' w', w'.ownsRow S 95 2 v' (xs ++ ys).length (dcells (xs ++ ys)) → w.grownBy w' v.ownBlock → wpList Tryz.prog ops Q rest (a.put o.dst v') w') : wpList Tryz.prog ops Q (o :: rest) a w := by
  obtain ⟨i0, hi0, hz0, hz1, hz2⟩ := info_parts info_run
  cases ao with
  | none =>
    obtain ⟨rfl, rfl⟩ := hn rfl
    obtain rfl : ys = [] := List.eq_nil_of_length_eq_zero hm
    refine wpList_append_own_none hgd s x _ ho S 95 i0 2 Tryz.underlying91 hi0 v _ _ hs h hx (hK v w (by simpa using h) ⟨rfl, rfl, rfl, Nat.le_refl _, fun _ _ _ => rfl⟩)
  | some ad =>
    refine wpList_append_own_at w hgd s x _ ho S 95 i0 _ 2 16 Tryz.underlying91 hi0 hz0 hz1 hz2 rfl (by omega) v _ _ hs h ad m c (dcells ys) hx (by rw [dcells_length, hm]) (hc ad rfl) (dcells_one ys) (by unfold maxLen; omega) (by omega) hS ?_
    intro v' w' hown hg _ _
    refine hK v' w' ?_ hg
    rw [List.length_append, dcells_app, hm]
    exact hown

end Go.Proofs.YtbcnlggkoidmmaaGreatDoor

namespace Go.Proofs.YtbcnlggkoidmmaaGreatDoor
open Go.RowKit Go.Joins RunsMath

theorem info_int : (Tryz.prog.info? 3).map (fun i => (i.zero, i.size, i.bytes)) = some (some (.int .i64 0), 1, 8) := by kernel_rfl
/-- The cells of numbers. -/
def ivals (l : List Int) : List Value := l.map fun x => Value.int .i64 x
theorem ivals_length (l : List Int) : (ivals l).length = l.length := by simp [ivals]
theorem ivals_app (xs ys : List Int) : ivals (xs ++ ys) = ivals xs ++ ivals ys := by simp [ivals]
theorem ivals_get (l : List Int) (i : Nat) (h : i < l.length) : (ivals l)[i]? = some (.int .i64 (l.getD i 0)) := by
  unfold ivals
  rw [List.getElem?_map, List.getElem?_eq_getElem h, List.getD_eq_getElem?_getD, List.getElem?_eq_getElem h]
  rfl
theorem ivals_one (l : List Int) : ∀ u ∈ ivals l, u.oneCell' = true := by
  intro u hu
  obtain ⟨x, _, rfl⟩ := List.mem_map.mp hu
  rfl
/-- A list of numbers of the call's own. -/
def NumRow (w : World) (S : Nat) (v : Value) (l : List Int) : Prop := w.ownsRow S 3 1 v l.length (ivals l)
theorem NumRow.empty (w : World) (S : Nat) (h : S ≤ w.heap.size) : NumRow (w.alloc (.cells #[] 3)) S (.slice (some ⟨w.heap.size, 0, none⟩) 0 0) [] :=
  ⟨rfl, .inr ⟨w.heap.size, 0, #[], rfl, h, heap_alloc_new w _, Nat.le_refl _, Nat.zero_le _, rfl, rfl⟩⟩
theorem NumRow.form {w : World} {S : Nat} {v : Value} {l : List Int} (h : NumRow w S v l) : ∃ a c, v = .slice a l.length c ∧ (a = none → c = 0) ∧ l.length ≤ c ∧ Came w a l.length (fun i => l.getD i 0) ∧ ∀ ad, a = some ad → ∀ j u, (ivals l)[j]? = some u → w.cell? (ad.add j) = some u := by
  rcases h.2 with ⟨rfl, h0⟩ | ⟨g, cap, cur, rfl, hb, hg, hc, hm, hs, ht⟩
  · exact ⟨none, 0, by rw [h0], fun _ => rfl, by omega, .inl h0, fun ad e => by cases e⟩
  · refine ⟨_, cap, rfl, (fun e => by cases e), hc, .inr ⟨g, 0, rfl, block_lt hg, fun j hj => ?_⟩, fun ad e j u hu => ?_⟩
    · rw [Nat.zero_add, h.cellAt j (by omega)]
      exact ivals_get l j hj
    · cases e
      have hj : j < l.length := by
        rcases Nat.lt_or_ge j l.length with k | k
        · exact k
        · rw [List.getElem?_eq_none (by rw [ivals_length]; exact k)] at hu; cases hu
      rw [Addr.add_lit, Nat.zero_add, h.cellAt j (by omega)]
      exact hu
theorem NumRow.called {w w' : World} {S : Nat} {v : Value} {l : List Int} (h : NumRow w S v l) (hb : Below w.heap.size w w') : NumRow w' S v l := by
  refine ⟨h.1, ?_⟩
  rcases h.2 with h | ⟨g, cap, cur, rfl, h1, h2, h3⟩
  · exact .inl h
  · exact .inr ⟨g, cap, cur, rfl, h1, (hb.block g (block_lt h2)).trans h2, h3⟩

/-- 'append(v, ys...)' of numbers. -/
theorem nums_append {w : World} {S : Nat} {v : Value} {xs ys : List Int} {ops : Array Oper} {rest : List Oper} {o : Oper} {a : Act} {Q : Exit → Act → World → Prop} (hgd : o.guard = none) (s x : Operand)
    (ho : o.op = .call { callee := .builtin .append, args := #[s, x], argTypes := #[26, 26] }) (hs : a.eval s = v) (h : NumRow w S v xs) (ao : Option Addr) (m c : Nat) (hx : a.eval x = .slice ao m c) (hm : ys.length = m)
    (hc : ∀ ad, ao = some ad → ∀ j u, (ivals ys)[j]? = some u → w.cell? (ad.add j) = some u) (hn : ao = none → m = 0 ∧ c = 0)
    (h63 : xs.length + ys.length ≤ 100000) (hS : S ≤ w.heap.size)
    (hK : ∀ v' w', NumRow w' S v' (xs ++ ys) → w.grownBy w' v.ownBlock → wpList Tryz.prog ops Q rest (a.put o.dst v') w') : wpList Tryz.prog ops Q (o :: rest) a w := by
  obtain ⟨i0, hi0, hz0, hz1, hz2⟩ := info_parts info_int
  cases ao with
  | none =>
    obtain ⟨rfl, rfl⟩ := hn rfl
    obtain rfl : ys = [] := List.eq_nil_of_length_eq_zero hm
    refine wpList_append_own_none hgd s x _ ho S 3 i0 1 Tryz.underlying26 hi0 v _ _ hs h hx (hK v w (by rw [List.append_nil]; exact h) ⟨rfl, rfl, rfl, Nat.le_refl _, fun _ _ _ => rfl⟩)
  | some ad =>
    refine wpList_append_own_at w hgd s x _ ho S 3 i0 _ 1 8 Tryz.underlying26 hi0 hz0 hz1 hz2 rfl (by omega) v _ _ hs h ad m c (ivals ys) hx (by rw [ivals_length, hm, Nat.mul_one]) (hc ad rfl) (ivals_one ys) (by unfold maxLen; omega) (by omega) hS ?_
    intro v' w' hown hg _ _
    refine hK v' w' ?_ hg
    show w'.ownsRow S 3 1 v' (xs ++ ys).length (ivals (xs ++ ys))
    rw [List.length_append, ivals_app, hm]
    exact hown

end Go.Proofs.YtbcnlggkoidmmaaGreatDoor

namespace Go.Proofs.YtbcnlggkoidmmaaGreatDoor
open Go.RowKit

theorem ret_i {k : IntKind} {a b : Int} (h : a = b) : Ending.returned (.int k a) = .returned (.int k b) := by rw [h]
theorem ret_b {a b : Bool} (h : a = b) : Ending.returned (.bool a) = .returned (.bool b) := by rw [h]

end Go.Proofs.YtbcnlggkoidmmaaGreatDoor

namespace Go.Proofs.YtbcnlggkoidmmaaGreatDoor
open Go.RowKit Go.Joins OutMath

set_option maxHeartbeats 400000 in
theorem pow_any (n : Nat) (w : World) (h : n ≤ 61) :
    Calls Tryz.prog 93 #[.int .i64 n] w fun e w' => e = .returned (.int .i64 (p2 n)) ∧ w' = w := by
  go_enter Tryz.func93, Tryz.ntmps93
  go_wp2
  go_loop [3, 4] (fun x i => ∃ j : Nat, j ≤ n ∧ i = .int .i64 j ∧ x = .int .i64 (p2 j)) (fun _ i => n - (intOf i).toNat)
  case atStart => exact ⟨0, Nat.zero_le _, rfl, by rw [p2_zero]⟩
  case round =>
    obtain ⟨j, hj, rfl, rfl⟩ := hrel
    have hp := p2_pos j
    have hq := p2_61 (n := j) (by omega)
    by_cases hlt : j < n
    · go_wp2
      go_round
      case rel => exact ⟨j + 1, by omega, by go_num, by rw [p2_succ]⟩
      case measure => simp [intOf]; omega
    · go_wp2
      go_ret
      exact ⟨ret_i (by rw [show j = n by omega]), rfl⟩

theorem pow_int (n : Int) (w : World) (h0 : 0 ≤ n) (h : n ≤ 61) :
    Calls Tryz.prog 93 #[.int .i64 n] w fun e w' => e = .returned (.int .i64 (p2 n.toNat)) ∧ w' = w := by
  obtain ⟨m, rfl⟩ := Int.eq_ofNat_of_zero_le h0
  exact pow_any m w (by omega)

end Go.Proofs.YtbcnlggkoidmmaaGreatDoor

namespace Go.Proofs.YtbcnlggkoidmmaaGreatDoor
open Go.RowKit Go.Joins OutMath CodeMath TakeMath HitMath WayMath InfMath

section
variable {w w' : World} {b : Nat} {s : ByteArray} {p : Nat} {vo : Value} {most c : Nat} {vt : Value}
end

/-- What taking a symbol comes to. -/
noncomputable def symR (f : Nat → Int) (n : Nat) (s : ByteArray) (p c : Nat) : Nat × Nat × Nat := if c ≠ 0 then (0, p, c) else if (symW f n s p).2.2 = 0 then ((symW f n s p).1, p + (symW f n s p).2.1, 0) else if (symW f n s p).2.2 = 2 then (0, p, 2) else (0, p, 6)

end Go.Proofs.YtbcnlggkoidmmaaGreatDoor

namespace Go.Proofs.YtbcnlggkoidmmaaGreatDoor
open Go.RowKit Go.Joins TokMath

theorem NumRow.nil (w : World) (S : Nat) : NumRow w S (.slice none 0 0) [] := ⟨rfl, .inl ⟨rfl, rfl⟩⟩
theorem nums_append1 {w : World} {S : Nat} {v : Value} {xs : List Int} {ops : Array Oper} {rest : List Oper} {o : Oper} {a : Act} {Q : Exit → Act → World → Prop} (hgd : o.guard = none) (s x : Operand)
    (ho : o.op = .call { callee := .builtin .append, args := #[s, x], argTypes := #[26, 26] }) (hs : a.eval s = v) (h : NumRow w S v xs) (g c : Nat) (y : Int) (hx : a.eval x = .slice (some ⟨g, 0, none⟩) 1 c) (hy : w.cell? ⟨g, 0, none⟩ = some (.int .i64 y))
    (h63 : xs.length ≤ 100000) (hS : S ≤ w.heap.size)
    (hK : ∀ v' w', NumRow w' S v' (xs ++ [y]) → w.grownBy w' v.ownBlock → (v'.ownBlock = v.ownBlock ∨ v'.ownBlock = some w.heap.size) → wpList Tryz.prog ops Q rest (a.put o.dst v') w') : wpList Tryz.prog ops Q (o :: rest) a w := by
  obtain ⟨i0, hi0, hz0, hz1, hz2⟩ := info_parts info_int
  refine wpList_append_own_at w hgd s x _ ho S 3 i0 _ 1 8 Tryz.underlying26 hi0 hz0 hz1 hz2 rfl (by omega) v _ _ hs h ⟨g, 0, none⟩ 1 c (ivals [y]) hx rfl (fun j u hu => ?_) (ivals_one _) (by unfold maxLen; omega) (by omega) hS ?_
  · cases j with
    | zero =>
      simp [ivals] at hu
      rw [← hu]
      exact hy
    | succ j => simp [ivals] at hu
  · intro v' w' hown hg _ hk
    refine hK v' w' ?_ hg hk
    show w'.ownsRow S 3 1 v' (xs ++ [y]).length (ivals (xs ++ [y]))
    rw [List.length_append, ivals_app]
    exact hown
end Go.Proofs.YtbcnlggkoidmmaaGreatDoor

namespace Go.Proofs.YtbcnlggkoidmmaaGreatDoor
namespace CodeMath
open OutMath

/-- How many codes have the length s, of the first k symbols. -/
def cs (f : Nat → Int) (k : Nat) : Nat → Int := fun s => if s = 0 then 0 else cntS f s k
theorem cs_start (f : Nat → Int) (s : Nat) : cs f 0 s = 0 := by unfold cs; split <;> rfl
theorem cs_step (f : Nat → Int) (k : Nat) (h : 0 ≤ f k) (s : Nat) : cs f (k + 1) s = cs f k s + (if 0 < f k ∧ s = (f k).toNat then 1 else 0) := by
  unfold cs
  by_cases h0 : s = 0
  · subst h0
    rw [if_pos rfl, if_pos rfl, if_neg (by omega)]
    omega
  · rw [if_neg h0, if_neg h0]
    show cntS f s k + (if f k = s then 1 else 0) = _
    by_cases h1 : f k = s
    · rw [if_pos h1, if_pos (by omega)]
    · rw [if_neg h1, if_neg (by omega)]
theorem cs_bd (f : Nat → Int) (k s : Nat) : 0 ≤ cs f k s ∧ cs f k s ≤ k := by
  unfold cs
  split
  · omega
  · exact cntS_bd f s k

/-- What the counts of the lengths below k are full to. -/
def fullS (g : Nat → Int) : Nat → Int
  | 0 => 0
  | k + 1 => fullS g k + g k * p2 (15 - k)
theorem fullS_step (f : Nat → Int) (n : Nat) (h : 0 ≤ f n) : ∀ k, k ≤ 16 → fullS (cs f (n + 1)) k = fullS (cs f n) k + (if 0 < f n ∧ f n < k then p2 (15 - f n).toNat else 0)
  | 0, _ => by
    rw [if_neg (by omega)]
    rfl
  | k + 1, hk => by
    have ih := fullS_step f n h k (by omega)
    show fullS (cs f (n + 1)) k + cs f (n + 1) k * p2 (15 - k) = fullS (cs f n) k + cs f n k * p2 (15 - k) + _
    rw [ih, cs_step f n h k, Int.add_mul]
    by_cases h1 : 0 < f n
    · by_cases h2 : k = (f n).toNat
      · rw [if_neg (by omega), if_pos ⟨h1, h2⟩, if_pos (by omega), show (15 - f n).toNat = 15 - k by omega]
        omega
      · rw [if_neg (show ¬ (0 < f n ∧ k = (f n).toNat) by omega)]
        by_cases h3 : f n < k
        · rw [if_pos (by omega), if_pos (by omega)]
          omega
        · rw [if_neg (by omega), if_neg (by omega)]
          omega
    · rw [if_neg (by omega), if_neg (by omega), if_neg (by omega)]
      omega
theorem fullS_zero : ∀ k, fullS (fun _ => 0) k = 0
  | 0 => rfl
  | k + 1 => by
    show fullS (fun _ => 0) k + 0 * p2 (15 - k) = 0
    rw [fullS_zero k, Int.zero_mul]
    rfl
theorem fullS_congr {g g' : Nat → Int} (h : ∀ s, g s = g' s) : ∀ k, fullS g k = fullS g' k
  | 0 => rfl
  | k + 1 => by
    show fullS g k + g k * p2 (15 - k) = fullS g' k + g' k * p2 (15 - k)
    rw [fullS_congr h k, h k]
theorem full_room (f : Nat → Int) : ∀ n, OkLens f n → fullS (cs f n) 16 = room f n
  | 0, _ => by rw [fullS_congr (cs_start f), fullS_zero]; rfl
  | n + 1, h => by
    have hn := h n (by omega)
    rw [fullS_step f n hn.1 16 (by omega), full_room f n (fun i hi => h i (by omega))]
    show _ = room f n + (if 0 < f n then p2 (15 - f n).toNat else 0)
    by_cases h1 : 0 < f n
    · rw [if_pos (by omega), if_pos h1]
    · rw [if_neg (by omega), if_neg h1]
theorem fullS_bd (g : Nat → Int) (hg : ∀ s, 0 ≤ g s ∧ g s ≤ 288) : ∀ k, 0 ≤ fullS g k ∧ fullS g k ≤ 9437184 * k
  | 0 => by simp [fullS]
  | k + 1 => by
    have ih := fullS_bd g hg k
    have h := hg k
    have hp := p2_pos (15 - k)
    have hq := p2_le (show 15 - k ≤ 15 by omega)
    have e : p2 15 = 32768 := by decide +kernel
    have a : 0 ≤ g k * p2 (15 - k) := Int.mul_nonneg h.1 (by omega)
    have b : g k * p2 (15 - k) ≤ 288 * p2 (15 - k) := Int.mul_le_mul_of_nonneg_right h.2 (by omega)
    show 0 ≤ fullS g k + g k * p2 (15 - k) ∧ fullS g k + g k * p2 (15 - k) ≤ _
    omega
theorem shl_part (g : Nat → Int) (hg : ∀ s, 0 ≤ g s ∧ g s ≤ 288) (k : Nat) : 0 ≤ g k * p2 (15 - k) ∧ g k * p2 (15 - k) ≤ 9437184 := by
  have h := hg k
  have hp := p2_pos (15 - k)
  have hq := p2_le (show 15 - k ≤ 15 by omega)
  have e : p2 15 = 32768 := by decide +kernel
  have a : 0 ≤ g k * p2 (15 - k) := Int.mul_nonneg h.1 (by omega)
  have b : g k * p2 (15 - k) ≤ 288 * p2 (15 - k) := Int.mul_le_mul_of_nonneg_right h.2 (by omega)
  omega

/-- All counts are 0 just where no length is above 0. -/
theorem cnt_step (f : Nat → Int) (k : Nat) : cnt f (k + 1) = cnt f k + (if 0 < f k then 1 else 0) := rfl
/-- The sum of the counts. -/
def sumS (g : Nat → Int) : Nat → Int
  | 0 => 0
  | k + 1 => sumS g k + g k
theorem sumS_step (f : Nat → Int) (n : Nat) (h : 0 ≤ f n) : ∀ k, k ≤ 16 → sumS (cs f (n + 1)) k = sumS (cs f n) k + (if 0 < f n ∧ f n < k then 1 else 0)
  | 0, _ => by rw [if_neg (by omega)]; rfl
  | k + 1, hk => by
    have ih := sumS_step f n h k (by omega)
    show sumS (cs f (n + 1)) k + cs f (n + 1) k = sumS (cs f n) k + cs f n k + _
    rw [ih, cs_step f n h k]
    by_cases h1 : 0 < f n
    · by_cases h2 : k = (f n).toNat
      · rw [if_neg (by omega), if_pos ⟨h1, h2⟩, if_pos (by omega)]
        omega
      · rw [if_neg (show ¬ (0 < f n ∧ k = (f n).toNat) by omega)]
        by_cases h3 : f n < k
        · rw [if_pos (by omega), if_pos (by omega)]
          omega
        · rw [if_neg (by omega), if_neg (by omega)]
          omega
    · rw [if_neg (by omega), if_neg (by omega), if_neg (by omega)]
      omega
theorem sum_cnt (f : Nat → Int) : ∀ n, OkLens f n → sumS (cs f n) 16 = cnt f n
  | 0, _ => by
    have : ∀ k, sumS (cs f 0) k = 0 := by
      intro k
      induction k with
      | zero => rfl
      | succ k ih => show sumS (cs f 0) k + cs f 0 k = 0; rw [ih, cs_start]; rfl
    rw [this]
    rfl
  | n + 1, h => by
    have hn := h n (by omega)
    rw [sumS_step f n hn.1 16 (by omega), sum_cnt f n (fun i hi => h i (by omega)), cnt_step]
    by_cases h1 : 0 < f n
    · rw [if_pos (by omega), if_pos h1]
    · rw [if_neg (by omega), if_neg h1]

/-- Just one code, of length 1. -/
def one1 : Nat → Int := fun s => if s = 1 then 1 else 0
theorem cs_none {f : Nat → Int} {n : Nat} (h : OkLens f n) : cnt f n = 0 ↔ ∀ s, s < 16 → cs f n s = 0 := by
  rw [← sum_cnt f n h]
  have b := fun s => (cs_bd f n s).1
  generalize cs f n = g at b
  constructor
  · intro e
    have key : ∀ k, k ≤ 16 → sumS g k ≤ sumS g 16 ∧ 0 ≤ sumS g k := by
      have mono : ∀ d k, sumS g k ≤ sumS g (k + d) := by
        intro d k
        induction d with
        | zero => exact Int.le_refl _
        | succ d ih => show _ ≤ sumS g (k + d) + g (k + d); have := b (k + d); omega
      intro k hk
      have m := mono (16 - k) k
      have z := mono k 0
      rw [show k + (16 - k) = 16 by omega] at m
      rw [Nat.zero_add] at z
      exact ⟨m, z⟩
    intro s hs
    have k1 := key s (by omega)
    have k2 := key (s + 1) (by omega)
    have e2 : sumS g (s + 1) = sumS g s + g s := rfl
    have := b s
    omega
  · intro e
    have key : ∀ k, k ≤ 16 → sumS g k = 0 := by
      intro k
      induction k with
      | zero => intro _; rfl
      | succ k ih => intro hk; show sumS g k + g k = 0; rw [ih (by omega), e k (by omega)]; rfl
    exact key 16 (by omega)
theorem cs_single {f : Nat → Int} {n : Nat} (h : OkLens f n) : (cnt f n = 1 ∧ room f n = 16384) ↔ ∀ s, s < 16 → cs f n s = one1 s := by
  rw [← sum_cnt f n h, ← full_room f n h]
  have b := fun s => (cs_bd f n s).1
  have z : cs f n 0 = 0 := rfl
  generalize cs f n = g at b z
  have e1 : sumS g 16 = g 0 + g 1 + g 2 + g 3 + g 4 + g 5 + g 6 + g 7 + g 8 + g 9 + g 10 + g 11 + g 12 + g 13 + g 14 + g 15 := by
    simp only [sumS]; omega
  have e2 : fullS g 16 = g 0 * 32768 + g 1 * 16384 + g 2 * 8192 + g 3 * 4096 + g 4 * 2048 + g 5 * 1024 + g 6 * 512 + g 7 * 256 + g 8 * 128 + g 9 * 64 + g 10 * 32 + g 11 * 16 + g 12 * 8 + g 13 * 4 + g 14 * 2 + g 15 := by
    simp only [fullS, p2]; omega
  rw [e1, e2]
  have b1 := b 1
  have b2 := b 2
  have b3 := b 3
  have b4 := b 4
  have b5 := b 5
  have b6 := b 6
  have b7 := b 7
  have b8 := b 8
  have b9 := b 9
  have b10 := b 10
  have b11 := b 11
  have b12 := b 12
  have b13 := b 13
  have b14 := b 14
  have b15 := b 15
  constructor
  · rintro ⟨p, q⟩ s hs
    have r : 8192 * (g 2 + g 3 + g 4 + g 5 + g 6 + g 7 + g 8 + g 9 + g 10 + g 11 + g 12 + g 13 + g 14 + g 15) ≤ 0 := by omega
    have hz : ∀ t, t < 16 → t ≠ 1 → g t = 0 := by
      intro t ht h1
      rcases (show t = 0 ∨ t = 2 ∨ t = 3 ∨ t = 4 ∨ t = 5 ∨ t = 6 ∨ t = 7 ∨ t = 8 ∨ t = 9 ∨ t = 10 ∨ t = 11 ∨ t = 12 ∨ t = 13 ∨ t = 14 ∨ t = 15 by omega) with rfl | rfl | rfl | rfl | rfl | rfl | rfl | rfl | rfl | rfl | rfl | rfl | rfl | rfl | rfl <;> omega
    unfold one1
    by_cases h1 : s = 1
    · subst h1
      rw [if_pos rfl]
      omega
    · rw [if_neg h1, hz s hs h1]
  · intro e
    have c := fun s (hs : s < 16) => e s hs
    rw [c 0 (by omega), c 1 (by omega), c 2 (by omega), c 3 (by omega), c 4 (by omega), c 5 (by omega), c 6 (by omega), c 7 (by omega), c 8 (by omega), c 9 (by omega), c 10 (by omega), c 11 (by omega), c 12 (by omega), c 13 (by omega), c 14 (by omega), c 15 (by omega)]
    decide +kernel

end CodeMath
end Go.Proofs.YtbcnlggkoidmmaaGreatDoor
