/-
  Lists of chunks (pairs of texts) in memory. Nothing here speaks of the program but the numbers of its types.
-/
import Derived.Test.YtkpbfmdnjnohlaaRows
import Derived.Test.YtkpbfmdnjnohlaaBase
import Derived.Test.YtkpbfmdnjnohlaaChunkMath
import Derived.WalkKit
import Derived.ProofKit
import Derived.Below
import Derived.OwnWalk
import Derived.Deep.AppendLies
import Derived.Maps.AppendAt
import Derived.Laws.AppendOwnNone
import Derived.Lib.SmallJoins
namespace Go.Proofs.Ytkpbfmdnjnohlaa
open Go.RowKit Go.Joins

theorem info_chk : (Try.prog.info? 72).map (fun i => (i.zero, i.size, i.bytes)) = some (some (.agg #[.string ByteArray.empty, .string ByteArray.empty]), 2, 32) := by kernel_rfl

/-- The cells of runs. -/
def kcells : List (ByteArray × ByteArray) → List Value
  | [] => []
  | c :: l => .string c.1 :: .string c.2 :: kcells l
theorem dcells_length : ∀ l : List (ByteArray × ByteArray), (kcells l).length = l.length * 2
  | [] => rfl
  | c :: l => by
    show (kcells l).length + 1 + 1 = (l.length + 1) * 2
    rw [dcells_length l]
    omega
theorem dcells_app : ∀ xs ys : List (ByteArray × ByteArray), kcells (xs ++ ys) = kcells xs ++ kcells ys
  | [], ys => rfl
  | c :: l, ys => by
    show Value.string c.1 :: .string c.2 :: kcells (l ++ ys) = Value.string c.1 :: .string c.2 :: (kcells l ++ kcells ys)
    rw [dcells_app l ys]
theorem dcells_get0 : ∀ (l : List (ByteArray × ByteArray)) (i : Nat), i < l.length → (kcells l)[i * 2]? = some (.string (l.getD i (ByteArray.empty, ByteArray.empty)).1)
  | [], i, h => by simp at h
  | c :: l, 0, _ => rfl
  | c :: l, i + 1, h => by
    rw [show (i + 1) * 2 = i * 2 + 1 + 1 by omega]
    show (kcells l)[i * 2]? = some (.string (l.getD i (ByteArray.empty, ByteArray.empty)).1)
    exact dcells_get0 l i (by simpa using h)
theorem dcells_get1 : ∀ (l : List (ByteArray × ByteArray)) (i : Nat), i < l.length → (kcells l)[i * 2 + 1]? = some (.string ((l.getD i (ByteArray.empty, ByteArray.empty)).2))
  | [], i, h => by simp at h
  | c :: l, 0, _ => rfl
  | c :: l, i + 1, h => by
    rw [show (i + 1) * 2 + 1 = i * 2 + 1 + 1 + 1 by omega]
    show (kcells l)[i * 2 + 1]? = some (.string ((l.getD i (ByteArray.empty, ByteArray.empty)).2))
    exact dcells_get1 l i (by simpa using h)
theorem dcells_one : ∀ (l : List (ByteArray × ByteArray)), ∀ u ∈ kcells l, u.oneCell' = true
  | [], u, h => by cases h
  | c :: l, u, h => by
    rcases List.mem_cons.mp h with rfl | h
    · rfl
    · rcases List.mem_cons.mp h with rfl | h
      · rfl
      · exact dcells_one l u h

/-- The Runs L lie at a, in a block below B. -/
def ChksLie (w : World) (B : Nat) (a : Option Addr) (L : List (ByteArray × ByteArray)) : Prop :=
  L = [] ∨ ∃ g off, a = some ⟨g, off, none⟩ ∧ g < B ∧ g < w.heap.size ∧ ∀ j u, (kcells L)[j]? = some u → w.cell? ⟨g, off + j, none⟩ = some u
/-- A slice of them. -/
def Kst (w : World) (B : Nat) (a : Option Addr) (c : Nat) (L : List (ByteArray × ByteArray)) : Prop := L.length ≤ c ∧ (a = none → c = 0) ∧ ChksLie w B a L

section
variable {w w' : World} {B : Nat} {a : Option Addr} {c : Nat} {L : List (ByteArray × ByteArray)} {x : ByteArray × ByteArray}
theorem ChksLie.kept (h : ChksLie w B a L) (hb : Below B w w') : ChksLie w' B a L := by
  rcases h with h | ⟨g, off, ha, h1, h2, h3⟩
  · exact .inl h
  · exact .inr ⟨g, off, ha, h1, Nat.lt_of_lt_of_le h2 hb.size, fun j u hu => (hb.cell (p := ⟨g, off + j, none⟩) h1).trans (h3 j u hu)⟩
theorem Kst.kept (h : Kst w B a c L) (hb : Below B w w') : Kst w' B a c L := ⟨h.1, h.2.1, h.2.2.kept hb⟩
theorem ChksLie.mono {B' : Nat} (h : ChksLie w B a L) (hB : B ≤ B') : ChksLie w B' a L := by
  rcases h with h | ⟨g, off, ha, h1, h2, h3⟩
  · exact .inl h
  · exact .inr ⟨g, off, ha, by omega, h2, h3⟩
theorem Kst.mono {B' : Nat} (h : Kst w B a c L) (hB : B ≤ B') : Kst w B' a c L := ⟨h.1, h.2.1, h.2.2.mono hB⟩
theorem Kst.cons (h : Kst w B a c (x :: L)) : ∃ g off d, a = some ⟨g, off, none⟩ ∧ c = d + 1 ∧ L.length ≤ d ∧ g < B ∧ g < w.heap.size ∧ w.cell? ⟨g, off, none⟩ = some (.string x.1) ∧ w.cell? ⟨g, off + 1, none⟩ = some (.string x.2) ∧ Kst w B (some ⟨g, off + 2, none⟩) d L := by
  obtain ⟨h1, h2, h3⟩ := h
  rw [List.length_cons] at h1
  rcases h3 with h3 | ⟨g, off, ha, q1, q2, q3⟩
  · cases h3
  · refine ⟨g, off, c - 1, ha, by omega, by omega, q1, q2, q3 0 _ rfl, q3 1 _ rfl, by omega, (fun e => by cases e), .inr ⟨g, off + 2, rfl, q1, q2, fun j u hu => ?_⟩⟩
    have := q3 (j + 2) u hu
    rw [show off + 2 + j = off + (j + 2) by omega]
    exact this
theorem Kst.cell (h : Kst w B a c L) (hp : 0 < L.length) : ∃ g off, a = some ⟨g, off, none⟩ ∧ g < B ∧ g < w.heap.size ∧ ∀ i, i < L.length → w.cell? ⟨g, off + i * 2, none⟩ = some (.string (L.getD i (ByteArray.empty, ByteArray.empty)).1) ∧ w.cell? ⟨g, off + (i * 2 + 1), none⟩ = some (.string ((L.getD i (ByteArray.empty, ByteArray.empty)).2)) := by
  rcases h.2.2 with h3 | ⟨g, off, ha, q1, q2, q3⟩
  · rw [h3] at hp; simp at hp
  · exact ⟨g, off, ha, q1, q2, fun i hi => ⟨q3 _ _ (dcells_get0 L i hi), q3 _ _ (dcells_get1 L i hi)⟩⟩
theorem Kst.news (h : Kst w B a c L) : ∀ ad, a = some ad → ∀ j u, (kcells L)[j]? = some u → w.cell? (ad.add j) = some u := by
  intro ad e j u hu
  rcases h.2.2 with h3 | ⟨g, off, ha, q1, q2, q3⟩
  · rw [h3] at hu; cases hu
  · rw [ha] at e
    cases e
    rw [Addr.add_lit]
    exact q3 j u hu
/-- What a call owns is such a list. -/
theorem kst_of_own {S n : Nat} {v : Value} (h : w.ownsRow S 72 2 v n (kcells L)) (hn : n = L.length) : ∃ a c, v = .slice a L.length c ∧ Kst w w.heap.size a c L ∧ c ≤ maxLen := by
  subst hn
  rcases h.2 with ⟨rfl, h0⟩ | ⟨g, cap, cur, rfl, hb, hg, hc, hm, hs, ht⟩
  · exact ⟨none, 0, by rw [h0], ⟨by omega, fun _ => rfl, .inl (List.eq_nil_of_length_eq_zero h0)⟩, Nat.zero_le _⟩
  · refine ⟨_, cap, rfl, ⟨hc, (fun e => by cases e), .inr ⟨g, 0, rfl, block_lt hg, block_lt hg, fun j u hu => ?_⟩⟩, hm⟩
    have hj : j < L.length * 2 := by
      rcases Nat.lt_or_ge j (L.length * 2) with k | k
      · exact k
      · rw [List.getElem?_eq_none (by rw [dcells_length]; exact k)] at hu; cases hu
    rw [Nat.zero_add, h.cellAt j hj]
    exact hu
end

/-- 'append(v, ys...)' of runs. -/
theorem chks_append {w : World} {S : Nat} {v : Value} {xs ys : List (ByteArray × ByteArray)} {ops : Array Oper} {rest : List Oper} {o : Oper} {a : Act} {Q : Exit → Act → World → Prop} (hgd : o.guard = none) (s x : Operand)
    (ho : o.op = .call { callee := .builtin .append, args := #[s, x], argTypes := #[32, 32] }) (hs : a.eval s = v) (h : w.ownsRow S 72 2 v xs.length (kcells xs)) (ao : Option Addr) (m c : Nat) (hx : a.eval x = .slice ao m c) (hm : ys.length = m)
    (hc : ∀ ad, ao = some ad → ∀ j u, (kcells ys)[j]? = some u → w.cell? (ad.add j) = some u) (hn : ao = none → m = 0 ∧ c = 0)
    (h63 : xs.length + ys.length ≤ 100000) (hS : S ≤ w.heap.size)
    (hK : ∀ v' w', w'.ownsRow S 72 2 v' (xs ++ ys).length (kcells (xs ++ ys)) → w.grownBy w' v.ownBlock → wpList Try.prog ops Q rest (a.put o.dst v') w') : wpList Try.prog ops Q (o :: rest) a w := by
  obtain ⟨i0, hi0, hz0, hz1, hz2⟩ := info_parts info_chk
  cases ao with
  | none =>
    obtain ⟨rfl, rfl⟩ := hn rfl
    obtain rfl : ys = [] := List.eq_nil_of_length_eq_zero hm
    refine wpList_append_own_none hgd s x _ ho S 72 i0 2 Try.underlying32 hi0 v _ _ hs h hx (hK v w (by simpa using h) ⟨rfl, rfl, rfl, Nat.le_refl _, fun _ _ _ => rfl⟩)
  | some ad =>
    refine wpList_append_own_at w hgd s x _ ho S 72 i0 _ 2 32 Try.underlying32 hi0 hz0 hz1 hz2 rfl (by omega) v _ _ hs h ad m c (kcells ys) hx (by rw [dcells_length, hm]) (hc ad rfl) (dcells_one ys) (by unfold maxLen; omega) (by omega) hS ?_
    intro v' w' hown hg _ _
    refine hK v' w' ?_ hg
    rw [List.length_append, dcells_app, hm]
    exact hown

end Go.Proofs.Ytkpbfmdnjnohlaa
