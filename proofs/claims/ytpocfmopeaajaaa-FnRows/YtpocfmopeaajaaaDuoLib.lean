/-
  Lists of pairs of numbers (Runs) in memory. Nothing here speaks of the program but the numbers of its types.
-/
import Derived.Test.YtpocfmopeaajaaaRows
import Derived.Test.YtpocfmopeaajaaaBase
import Derived.Test.YtpocfmopeaajaaaRunsMath
import Derived.WalkKit
import Derived.ProofKit
import Derived.Below
import Derived.OwnWalk
import Derived.Deep.AppendLies
import Derived.Maps.AppendAt
import Derived.Laws.AppendOwnNone
import Derived.Lib.SmallJoins
namespace Go.Proofs.Ytpocfmopeaajaaa
open Go.RowKit Go.Joins

/-- The cells of runs. -/
def dcells : List (Int × Int) → List Value
  | [] => []
  | c :: l => .int .i64 c.1 :: .int .i64 c.2 :: dcells l
theorem dcells_length : ∀ l : List (Int × Int), (dcells l).length = l.length * 2
  | [] => rfl
  | c :: l => by
    show (dcells l).length + 1 + 1 = (l.length + 1) * 2
    rw [dcells_length l]
    omega
theorem dcells_app : ∀ xs ys : List (Int × Int), dcells (xs ++ ys) = dcells xs ++ dcells ys
  | [], ys => rfl
  | c :: l, ys => by
    show Value.int .i64 c.1 :: .int .i64 c.2 :: dcells (l ++ ys) = Value.int .i64 c.1 :: .int .i64 c.2 :: (dcells l ++ dcells ys)
    rw [dcells_app l ys]
theorem dcells_get0 : ∀ (l : List (Int × Int)) (i : Nat), i < l.length → (dcells l)[i * 2]? = some (.int .i64 (l.getD i (0, 0)).1)
  | [], i, h => by simp at h
  | c :: l, 0, _ => rfl
  | c :: l, i + 1, h => by
    rw [show (i + 1) * 2 = i * 2 + 1 + 1 by omega]
    show (dcells l)[i * 2]? = some (.int .i64 (l.getD i (0, 0)).1)
    exact dcells_get0 l i (by simpa using h)
theorem dcells_get1 : ∀ (l : List (Int × Int)) (i : Nat), i < l.length → (dcells l)[i * 2 + 1]? = some (.int .i64 ((l.getD i (0, 0)).2))
  | [], i, h => by simp at h
  | c :: l, 0, _ => rfl
  | c :: l, i + 1, h => by
    rw [show (i + 1) * 2 + 1 = i * 2 + 1 + 1 + 1 by omega]
    show (dcells l)[i * 2 + 1]? = some (.int .i64 ((l.getD i (0, 0)).2))
    exact dcells_get1 l i (by simpa using h)
theorem dcells_one : ∀ (l : List (Int × Int)), ∀ u ∈ dcells l, u.oneCell' = true
  | [], u, h => by cases h
  | c :: l, u, h => by
    rcases List.mem_cons.mp h with rfl | h
    · rfl
    · rcases List.mem_cons.mp h with rfl | h
      · rfl
      · exact dcells_one l u h

/-- The Runs L lie at a, in a block below B. -/
def RunsLie (w : World) (B : Nat) (a : Option Addr) (L : List (Int × Int)) : Prop :=
  L = [] ∨ ∃ g off, a = some ⟨g, off, none⟩ ∧ g < B ∧ g < w.heap.size ∧ ∀ j u, (dcells L)[j]? = some u → w.cell? ⟨g, off + j, none⟩ = some u
/-- A slice of them. -/
def Dst (w : World) (B : Nat) (a : Option Addr) (c : Nat) (L : List (Int × Int)) : Prop := L.length ≤ c ∧ (a = none → c = 0) ∧ RunsLie w B a L

section
variable {w w' : World} {B : Nat} {a : Option Addr} {c : Nat} {L : List (Int × Int)} {x : Int × Int}
theorem RunsLie.kept (h : RunsLie w B a L) (hb : Below B w w') : RunsLie w' B a L := by
  rcases h with h | ⟨g, off, ha, h1, h2, h3⟩
  · exact .inl h
  · exact .inr ⟨g, off, ha, h1, Nat.lt_of_lt_of_le h2 hb.size, fun j u hu => (hb.cell (p := ⟨g, off + j, none⟩) h1).trans (h3 j u hu)⟩
theorem Dst.kept (h : Dst w B a c L) (hb : Below B w w') : Dst w' B a c L := ⟨h.1, h.2.1, h.2.2.kept hb⟩
theorem RunsLie.mono {B' : Nat} (h : RunsLie w B a L) (hB : B ≤ B') : RunsLie w B' a L := by
  rcases h with h | ⟨g, off, ha, h1, h2, h3⟩
  · exact .inl h
  · exact .inr ⟨g, off, ha, by omega, h2, h3⟩
theorem Dst.mono {B' : Nat} (h : Dst w B a c L) (hB : B ≤ B') : Dst w B' a c L := ⟨h.1, h.2.1, h.2.2.mono hB⟩
theorem Dst.cons (h : Dst w B a c (x :: L)) : ∃ g off d, a = some ⟨g, off, none⟩ ∧ c = d + 1 ∧ L.length ≤ d ∧ g < B ∧ g < w.heap.size ∧ w.cell? ⟨g, off, none⟩ = some (.int .i64 x.1) ∧ w.cell? ⟨g, off + 1, none⟩ = some (.int .i64 x.2) ∧ Dst w B (some ⟨g, off + 2, none⟩) d L := by
  obtain ⟨h1, h2, h3⟩ := h
  rw [List.length_cons] at h1
  rcases h3 with h3 | ⟨g, off, ha, q1, q2, q3⟩
  · cases h3
  · refine ⟨g, off, c - 1, ha, by omega, by omega, q1, q2, q3 0 _ rfl, q3 1 _ rfl, by omega, (fun e => by cases e), .inr ⟨g, off + 2, rfl, q1, q2, fun j u hu => ?_⟩⟩
    have := q3 (j + 2) u hu
    rw [show off + 2 + j = off + (j + 2) by omega]
    exact this
theorem Dst.cell (h : Dst w B a c L) (hp : 0 < L.length) : ∃ g off, a = some ⟨g, off, none⟩ ∧ g < B ∧ g < w.heap.size ∧ ∀ i, i < L.length → w.cell? ⟨g, off + i * 2, none⟩ = some (.int .i64 (L.getD i (0, 0)).1) ∧ w.cell? ⟨g, off + (i * 2 + 1), none⟩ = some (.int .i64 ((L.getD i (0, 0)).2)) := by
  rcases h.2.2 with h3 | ⟨g, off, ha, q1, q2, q3⟩
  · rw [h3] at hp; simp at hp
  · exact ⟨g, off, ha, q1, q2, fun i hi => ⟨q3 _ _ (dcells_get0 L i hi), q3 _ _ (dcells_get1 L i hi)⟩⟩
theorem Dst.news (h : Dst w B a c L) : ∀ ad, a = some ad → ∀ j u, (dcells L)[j]? = some u → w.cell? (ad.add j) = some u := by
  intro ad e j u hu
  rcases h.2.2 with h3 | ⟨g, off, ha, q1, q2, q3⟩
  · rw [h3] at hu; cases hu
  · rw [ha] at e
    cases e
    rw [Addr.add_lit]
    exact q3 j u hu
end

end Go.Proofs.Ytpocfmopeaajaaa
