/-
  Lists of items in memory: each item is a weight and a list of numbers. Nothing here speaks of the program but the numbers of its types.
  'append' of items, for the walk.
  More on lists of items in memory: laid anew, cut at a place.
-/
import Derived.Test.YtbcnlggkoidmmabGreatDoorRows
import Derived.Test.YtbcnlggkoidmmabGreatDoorPk01
import Derived.Test.YtbcnlggkoidmmabGreatDoorPk04
import Derived.WalkKit
import Derived.Below
import Derived.Deep.AppendLies
import Derived.Laws.AppendOwnNone
import Derived.Lib.SmallJoins
import Derived.ProofKit
import Derived.OwnWalk
import Derived.Maps.AppendAt
namespace Go.Proofs.YtbcnlggkoidmmabGreatDoor
open Go.RowKit Go.Joins PackageMath

/-- The cells of items, us being their lists' values. -/
def icells : List Coin → List Value → List Value
  | x :: xs, u :: us => .int .i64 x.1 :: u :: icells xs us
  | _, _ => []
theorem icells_length : ∀ (xs : List Coin) (us : List Value), us.length = xs.length → (icells xs us).length = xs.length * 2
  | [], _, _ => by simp [icells]
  | x :: xs, [], h => by simp at h
  | x :: xs, u :: us, h => by
    show (icells xs us).length + 1 + 1 = (xs.length + 1) * 2
    rw [icells_length xs us (by simpa using h)]
    omega
theorem icells_app : ∀ (xs ys : List Coin) (us vs : List Value), us.length = xs.length → icells (xs ++ ys) (us ++ vs) = icells xs us ++ icells ys vs
  | [], ys, us, vs, h => by
    have : us = [] := List.eq_nil_of_length_eq_zero (by simpa using h)
    subst this
    simp [icells]
  | x :: xs, ys, [], vs, h => by simp at h
  | x :: xs, ys, u :: us, vs, h => by
    show Value.int .i64 x.1 :: u :: icells (xs ++ ys) (us ++ vs) = Value.int .i64 x.1 :: u :: (icells xs us ++ icells ys vs)
    rw [icells_app xs ys us vs (by simpa using h)]
theorem icells_get0 : ∀ (xs : List Coin) (us : List Value) (i : Nat), us.length = xs.length → i < xs.length → (icells xs us)[i * 2]? = some (.int .i64 (xs.getD i (0, [])).1)
  | [], _, i, _, h => by simp at h
  | x :: xs, [], i, h, _ => by simp at h
  | x :: xs, u :: us, 0, _, _ => by simp [icells]
  | x :: xs, u :: us, i + 1, h, hi => by
    rw [show (i + 1) * 2 = i * 2 + 1 + 1 by omega]
    show (icells xs us)[i * 2]? = some (.int .i64 (xs.getD i (0, [])).1)
    exact icells_get0 xs us i (by simpa using h) (by simpa using hi)
theorem icells_get1 : ∀ (xs : List Coin) (us : List Value) (i : Nat), us.length = xs.length → i < xs.length → (icells xs us)[i * 2 + 1]? = us[i]?
  | [], _, i, _, h => by simp at h
  | x :: xs, [], i, h, _ => by simp at h
  | x :: xs, u :: us, 0, _, _ => by simp [icells]
  | x :: xs, u :: us, i + 1, h, hi => by
    rw [show (i + 1) * 2 + 1 = i * 2 + 1 + 1 + 1 by omega]
    show (icells xs us)[i * 2 + 1]? = us[i]?
    exact icells_get1 xs us i (by simpa using h) (by simpa using hi)

/-- The value u is a list of the numbers ps, in a block of numbers from B on. -/
def PartsAt (w : World) (B : Nat) (u : Value) (ps : List Nat) : Prop :=
  ∃ g cap cur fz, u = .slice (some ⟨g, 0, none⟩) ps.length cap ∧ B ≤ g ∧ w.heap[g]? = some (.cells cur 3 fz) ∧ cur.toList.take ps.length = ps.map fun (i : Nat) => Value.int .i64 (i : Int)
theorem PartsAt.keep {w w' : World} {B : Nat} {u : Value} {ps : List Nat} (h : PartsAt w B u ps) (hk : ∀ g cur fz, B ≤ g → w.heap[g]? = some (.cells cur 3 fz) → w'.heap[g]? = w.heap[g]?) : PartsAt w' B u ps := by
  obtain ⟨g, cap, cur, fz, h1, h2, h3, h4⟩ := h
  exact ⟨g, cap, cur, fz, h1, h2, (hk g cur fz h2 h3).trans h3, h4⟩
theorem PartsAt.one {w : World} {B : Nat} {u : Value} {ps : List Nat} (h : PartsAt w B u ps) : u.oneCell' = true := by
  obtain ⟨g, cap, cur, fz, rfl, _⟩ := h
  rfl
theorem PartsAt.cell {w : World} {B : Nat} {g cap n : Nat} {ps : List Nat} (h : PartsAt w B (.slice (some ⟨g, 0, none⟩) n cap) ps) : n = ps.length ∧ g < w.heap.size ∧ ∀ i, i < ps.length → w.cell? ⟨g, i, none⟩ = some (.int .i64 ((ps.getD i 0 : Nat) : Int)) := by
  obtain ⟨g', cap', cur, fz, h1, h2, h3, h4⟩ := h
  simp at h1
  obtain ⟨rfl, rfl, rfl⟩ := h1
  refine ⟨rfl, block_lt h3, fun i hi => ?_⟩
  have e1 : w.cell? ⟨g, i, none⟩ = cur[i]? := cell_of_block h3 i
  have e2 : (cur.toList.take ps.length)[i]? = cur[i]? := by
    rw [List.getElem?_take, if_pos hi]
    simp
  rw [e1, ← e2, h4, List.getElem?_map, List.getD_eq_getElem?_getD, List.getElem?_eq_getElem hi]
  rfl

/-- The value v is a list of the items xs: its spine is a block of items from S on, their lists are from B on. -/
def ItemsAt (e : TypeId) (w : World) (S B : Nat) (v : Value) (xs : List Coin) : Prop :=
  ∃ us : List Value, us.length = xs.length ∧ w.ownsRow S e 2 v xs.length (icells xs us) ∧ ∀ i, i < xs.length → PartsAt w B (us.getD i undef) (xs.getD i (0, [])).2
section
variable {e : TypeId} {w w' : World} {S B : Nat} {v : Value} {xs : List Coin}
/-- The spine's block. -/
theorem ItemsAt.spine (h : ItemsAt e w S B v xs) : ∀ k, v.ownBlock = some k → S ≤ k ∧ ∃ cur, w.heap[k]? = some (.cells cur e (0, 0)) := by
  obtain ⟨us, _, h2, _⟩ := h
  intro k hk
  rcases h2.2 with ⟨rfl, _⟩ | ⟨g, cap, cur, rfl, hb, hg, _⟩
  · cases hk
  · simp [Value.ownBlock] at hk
    subst hk
    exact ⟨hb, cur, hg⟩
theorem ItemsAt.keep (h : ItemsAt e w S B v xs) (hs : ∀ k, v.ownBlock = some k → w'.heap[k]? = w.heap[k]?) (hk : ∀ g cur fz, B ≤ g → w.heap[g]? = some (.cells cur 3 fz) → w'.heap[g]? = w.heap[g]?) : ItemsAt e w' S B v xs := by
  obtain ⟨us, h1, h2, h3⟩ := h
  refine ⟨us, h1, ⟨h2.1, ?_⟩, fun i hi => (h3 i hi).keep hk⟩
  rcases h2.2 with h | ⟨g, cap, cur, rfl, hb, hg, hr⟩
  · exact .inl h
  · exact .inr ⟨g, cap, cur, rfl, hb, (hs g rfl).trans hg, hr⟩
/-- Behind a call that turned nothing old. -/
theorem ItemsAt.called (h : ItemsAt e w S B v xs) (hb : Below w.heap.size w w') : ItemsAt e w' S B v xs := by
  refine h.keep (fun k hk => ?_) (fun g cur fz _ hg => hb.block g (block_lt hg))
  obtain ⟨_, cur, hc⟩ := h.spine k hk
  exact hb.block k (block_lt hc)
theorem ItemsAt.mono {S' : Nat} (h : ItemsAt e w S B v xs) (hs : S' ≤ S) : ItemsAt e w S' B v xs := by
  obtain ⟨us, h1, h2, h3⟩ := h
  refine ⟨us, h1, ⟨h2.1, ?_⟩, h3⟩
  rcases h2.2 with h | ⟨g, cap, cur, rfl, hb, hr⟩
  · exact .inl h
  · exact .inr ⟨g, cap, cur, rfl, by omega, hr⟩
theorem ItemsAt.slice (h : ItemsAt e w S B v xs) : ∃ (a : Option Addr) (cap : Nat), v = .slice a xs.length cap := by
  obtain ⟨us, h1, h2, h3⟩ := h
  rcases h2.2 with ⟨rfl, h0⟩ | ⟨g, cap, cur, rfl, _⟩
  · exact ⟨none, 0, by rw [h0]⟩
  · exact ⟨_, cap, rfl⟩
/-- An item, read. -/
theorem ItemsAt.get (h : ItemsAt e w S B v xs) (i : Nat) (hi : i < xs.length) : ∃ g cap u, v = .slice (some ⟨g, 0, none⟩) xs.length cap ∧ g < w.heap.size ∧ w.cell? ⟨g, i * 2, none⟩ = some (.int .i64 (xs.getD i (0, [])).1) ∧ w.cell? ⟨g, i * 2 + 1, none⟩ = some u ∧ PartsAt w B u (xs.getD i (0, [])).2 := by
  obtain ⟨us, h1, h2, h3⟩ := h
  rcases h2.2 with ⟨_, h0⟩ | ⟨g, cap, cur, rfl, hb, hg, hr⟩
  · omega
  · refine ⟨g, cap, us.getD i undef, rfl, block_lt hg, ?_, ?_, h3 i hi⟩
    · rw [h2.cellAt (i * 2) (by omega), icells_get0 xs us i h1 hi]
    · rw [h2.cellAt (i * 2 + 1) (by omega), icells_get1 xs us i h1 hi, List.getD_eq_getElem?_getD, List.getElem?_eq_getElem (by omega)]
      rfl
/-- An empty list, made. -/
theorem ItemsAt.empty (w : World) (h : S ≤ w.heap.size) : ItemsAt e (w.alloc (.cells #[] e)) S B (.slice (some ⟨w.heap.size, 0, none⟩) 0 0) [] :=
  ⟨[], rfl, ⟨rfl, .inr ⟨w.heap.size, 0, #[], rfl, h, heap_alloc_new w _, Nat.le_refl _, Nat.zero_le _, rfl, rfl⟩⟩, fun i hi => absurd hi (Nat.not_lt_zero i)⟩
/-- Items put behind it. -/
theorem ItemsAt.app {ys : List Coin} {vs : List Value} {v' : Value} (he : e ≠ 3) (h : ItemsAt e w S B v xs) (hl : vs.length = ys.length) (hp : ∀ i, i < ys.length → PartsAt w B (vs.getD i undef) (ys.getD i (0, [])).2)
    (hown : ∀ us, us.length = xs.length → w.ownsRow S e 2 v xs.length (icells xs us) → w'.ownsRow S e 2 v' (xs.length + ys.length) (icells xs us ++ icells ys vs)) (hg : w.grownBy w' v.ownBlock) : ItemsAt e w' S B v' (xs ++ ys) := by
  have hk : ∀ g cur fz, B ≤ g → w.heap[g]? = some (.cells cur 3 fz) → w'.heap[g]? = w.heap[g]? := fun g cur fz _ hgc => by
    refine hg.block g (block_lt hgc) (fun hrow => ?_)
    obtain ⟨_, c2, hc2⟩ := h.spine g hrow.symm
    rw [hgc] at hc2
    simp at hc2
    exact he hc2.2.1.symm
  obtain ⟨us, h1, h2, h3⟩ := h
  refine ⟨us ++ vs, by simp [h1, hl], ?_, fun i hi => ?_⟩
  · rw [icells_app xs ys us vs h1, List.length_append]
    exact hown us h1 h2
  · rw [List.length_append] at hi
    rw [List.getD_eq_getElem?_getD, List.getD_eq_getElem?_getD]
    by_cases hx : i < xs.length
    · rw [List.getElem?_append_left (by omega), List.getElem?_append_left hx]
      have := (h3 i hx).keep hk
      rw [List.getD_eq_getElem?_getD, List.getD_eq_getElem?_getD] at this
      exact this
    · rw [List.getElem?_append_right (by omega), List.getElem?_append_right (by omega), h1]
      have := (hp (i - xs.length) (by omega)).keep hk
      rw [List.getD_eq_getElem?_getD, List.getD_eq_getElem?_getD] at this
      exact this
end

end Go.Proofs.YtbcnlggkoidmmabGreatDoor

namespace Go.Proofs.YtbcnlggkoidmmabGreatDoor
open Go.RowKit Go.Joins PackageMath

theorem info_item : (Tryz.prog.info? 95).map (fun i => (i.zero, i.size, i.bytes)) = some (some (.agg #[.int .i64 0, .slice none 0 0]), 2, 32) := by kernel_rfl
theorem info_num : (Tryz.prog.info? 3).map (fun i => (i.zero, i.size, i.bytes)) = some (some (.int .i64 0), 1, 8) := by kernel_rfl
theorem item_ne : (95 : TypeId) ≠ 3 := by decide

theorem icells_one : ∀ (ys : List Coin) (vs : List Value), (∀ i, i < ys.length → (vs.getD i undef).oneCell' = true) → ∀ u ∈ icells ys vs, u.oneCell' = true
  | [], _, _, u, hu => by simp [icells] at hu
  | y :: ys, [], _, u, hu => by simp [icells] at hu
  | y :: ys, v :: vs, h, u, hu => by
    rcases List.mem_cons.mp hu with rfl | hu
    · rfl
    · rcases List.mem_cons.mp hu with rfl | hu
      · exact h 0 (by simp)
      · exact icells_one ys vs (fun i hi => h (i + 1) (by simpa using hi)) u hu

/-- 'append(v, xs...)' of items. -/
theorem items_append {w : World} {S B : Nat} {v : Value} {xs ys : List Coin} {vs : List Value} {ops : Array Oper} {rest : List Oper} {o : Oper} {a : Act} {Q : Exit → Act → World → Prop} (hgd : o.guard = none) (s x : Operand)
    (ho : o.op = .call { callee := .builtin .append, args := #[s, x], argTypes := #[92, 92] }) (hs : a.eval s = v) (h : ItemsAt 95 w S B v xs) (ao : Option Addr) (m c : Nat) (hx : a.eval x = .slice ao m c) (hm : ys.length = m)
    (hl : vs.length = ys.length) (hp : ∀ i, i < ys.length → PartsAt w B (vs.getD i undef) (ys.getD i (0, [])).2) (hc : ∀ ad, ao = some ad → ∀ j u, (icells ys vs)[j]? = some u → w.cell? (ad.add j) = some u) (hn : ao = none → m = 0 ∧ c = 0)
    (h63 : xs.length + ys.length ≤ 100000) (hS : S ≤ w.heap.size)
    (hK : ∀ v' w', ItemsAt 95 w' S B v' (xs ++ ys) → w.grownBy w' v.ownBlock → (v'.ownBlock = v.ownBlock ∨ v'.ownBlock = some w.heap.size) → wpList Tryz.prog ops Q rest (a.put o.dst v') w') : wpList Tryz.prog ops Q (o :: rest) a w := by
  obtain ⟨i0, hi0, hz0, hz1, hz2⟩ := info_parts info_item
  obtain ⟨us, h1, h2, h3⟩ := id h
  cases ao with
  | none =>
    obtain ⟨rfl, rfl⟩ := hn rfl
    obtain rfl : ys = [] := List.eq_nil_of_length_eq_zero hm
    refine wpList_append_own_none hgd s x _ ho S 95 i0 2 Tryz.underlying92 hi0 v _ _ hs h2 hx (hK v w (by simpa using h) ⟨rfl, rfl, rfl, Nat.le_refl _, fun _ _ _ => rfl⟩ (.inl rfl))
  | some ad =>
    refine wpList_append_own_at w hgd s x _ ho S 95 i0 _ 2 32 Tryz.underlying92 hi0 hz0 hz1 hz2 rfl (by omega) v _ _ hs h2 ad m c (icells ys vs) hx (by rw [icells_length ys vs hl, hm]) (hc ad rfl) (icells_one ys vs (fun i hi => (hp i hi).one)) (by unfold maxLen; omega) (by omega) hS ?_
    intro v' w' hown hg _ hat
    refine hK v' w' (h.app item_ne hl hp (fun us' h1' h2' => ?_) hg) hg hat
    have e : icells xs us' = icells xs us := by
      have t1 := h2'.2
      have t2 := h2.2
      rcases t1 with ⟨rfl, q1⟩ | ⟨g, cap, cur, rfl, _, hg1, _, _, _, ht1⟩
      · have z1 := h2'.1
        have z2 := h2.1
        rw [q1] at z1 z2
        have e1 : icells xs us' = [] := List.eq_nil_of_length_eq_zero (by rw [z1])
        have e2 : icells xs us = [] := List.eq_nil_of_length_eq_zero (by rw [z2])
        rw [e1, e2]
      · rcases t2 with ⟨q, _⟩ | ⟨g', cap', cur', q, _, hg2, _, _, _, ht2⟩
        · cases q
        · simp at q
          obtain ⟨rfl, rfl⟩ := q
          rw [hg1] at hg2
          simp at hg2
          subst hg2
          rw [← ht1, ← ht2]
    rw [e, hm]
    exact hown

end Go.Proofs.YtbcnlggkoidmmabGreatDoor

namespace Go.Proofs.YtbcnlggkoidmmabGreatDoor
open Go.RowKit Go.Joins PackageMath

theorem ItemsAt.lay {e : TypeId} {w : World} {S B : Nat} {v : Value} {xs : List Coin} (h : ItemsAt e w S B v xs) (n : Nat) (o : Obj) : ItemsAt e ((w.drewN n).alloc o) S B v xs :=
  h.called ((bdraws (Below.refl _ _) n).alloc (Nat.le_refl _) o)
theorem PartsAt.lay {w : World} {B : Nat} {u : Value} {ps : List Nat} (h : PartsAt w B u ps) (n : Nat) (o : Obj) : PartsAt ((w.drewN n).alloc o) B u ps :=
  h.keep (fun g _ _ _ hg => (Below.heap_alloc (w.drewN n) o g (block_lt hg)))
theorem one_part {w : World} {B : Nat} {u : Value} {x : Coin} (h : PartsAt w B u x.2) : ∀ i, i < [x].length → PartsAt w B ([u].getD i undef) ([x].getD i (0, [])).2 := by
  intro i hi
  obtain rfl : i = 0 := by simpa using hi
  exact h
theorem news_item {w : World} (n : Nat) (x : Coin) (u : Value) : ∀ ad, some (⟨w.heap.size, 0, none⟩ : Addr) = some ad → ∀ j q, (icells [x] [u])[j]? = some q → ((w.drewN n).alloc (.cells #[.int .i64 x.1, u] 95)).cell? (ad.add j) = some q := by
  intro ad h
  cases h
  exact World.news_of_block (cs := #[.int .i64 x.1, u]) (t := 95) (fr := (0, 0)) (heap_alloc_new (w.drewN n) _)
theorem icells_drop : ∀ (i : Nat) (xs : List Coin) (us : List Value), us.length = xs.length → icells (xs.drop i) (us.drop i) = (icells xs us).drop (i * 2)
  | 0, xs, us, _ => by simp
  | i + 1, [], us, h => by
    have : us = [] := List.eq_nil_of_length_eq_zero (by simpa using h)
    subst this
    simp [icells]
  | i + 1, x :: xs, [], h => by simp at h
  | i + 1, x :: xs, u :: us, h => by
    rw [show (i + 1) * 2 = i * 2 + 1 + 1 by omega]
    show icells (xs.drop i) (us.drop i) = (icells xs us).drop (i * 2)
    exact icells_drop i xs us (by simpa using h)
theorem parts_from {w : World} {B : Nat} {X : List Coin} {us : List Value} (_h1 : us.length = X.length) (h3 : ∀ i, i < X.length → PartsAt w B (us.getD i undef) (X.getD i (0, [])).2) (i : Nat) : ∀ q, q < (X.drop i).length → PartsAt w B ((us.drop i).getD q undef) ((X.drop i).getD q (0, [])).2 := by
  intro q hq
  rw [List.length_drop] at hq
  have := h3 (i + q) (by omega)
  rw [List.getD_eq_getElem?_getD, List.getD_eq_getElem?_getD] at this ⊢
  rw [List.getElem?_drop, List.getElem?_drop]
  exact this
theorem news_from {w : World} {S g cap : Nat} {X : List Coin} {us : List Value} (h1 : us.length = X.length) (h2 : w.ownsRow S 95 2 (.slice (some ⟨g, 0, none⟩) X.length cap) X.length (icells X us)) (i : Nat) : ∀ ad, some (⟨g, i * 2, none⟩ : Addr) = some ad → ∀ j q, (icells (X.drop i) (us.drop i))[j]? = some q → w.cell? (ad.add j) = some q := by
  intro ad h j q hq
  cases h
  rw [icells_drop i X us h1, List.getElem?_drop] at hq
  rw [Addr.add_lit]
  have hj : i * 2 + j < X.length * 2 := by
    rcases Nat.lt_or_ge (i * 2 + j) (X.length * 2) with k | k
    · exact k
    · rw [List.getElem?_eq_none (by rw [icells_length X us h1]; exact k)] at hq
      cases hq
  rw [h2.cellAt (i * 2 + j) hj]
  exact hq

theorem icells_take : ∀ (i : Nat) (xs : List Coin) (us : List Value), us.length = xs.length → icells (xs.take i) (us.take i) = (icells xs us).take (i * 2)
  | 0, xs, us, _ => by simp [icells]
  | i + 1, [], us, h => by
    have : us = [] := List.eq_nil_of_length_eq_zero (by simpa using h)
    subst this
    simp [icells]
  | i + 1, x :: xs, [], h => by simp at h
  | i + 1, x :: xs, u :: us, h => by
    rw [show (i + 1) * 2 = i * 2 + 1 + 1 by omega]
    show Value.int .i64 x.1 :: u :: icells (xs.take i) (us.take i) = Value.int .i64 x.1 :: u :: (icells xs us).take (i * 2)
    rw [icells_take i xs us (by simpa using h)]
theorem parts_upto {w : World} {B : Nat} {X : List Coin} {us : List Value} (_h1 : us.length = X.length) (h3 : ∀ i, i < X.length → PartsAt w B (us.getD i undef) (X.getD i (0, [])).2) (i : Nat) : ∀ q, q < (X.take i).length → PartsAt w B ((us.take i).getD q undef) ((X.take i).getD q (0, [])).2 := by
  intro q hq
  rw [List.length_take] at hq
  have := h3 q (by omega)
  rw [List.getD_eq_getElem?_getD, List.getD_eq_getElem?_getD] at this ⊢
  rw [List.getElem?_take, List.getElem?_take, if_pos (by omega), if_pos (by omega)]
  exact this
theorem news_upto {w : World} {S g cap : Nat} {X : List Coin} {us : List Value} (h1 : us.length = X.length) (h2 : w.ownsRow S 95 2 (.slice (some ⟨g, 0, none⟩) X.length cap) X.length (icells X us)) (i : Nat) : ∀ ad, some (⟨g, 0, none⟩ : Addr) = some ad → ∀ j q, (icells (X.take i) (us.take i))[j]? = some q → w.cell? (ad.add j) = some q := by
  intro ad h j q hq
  cases h
  rw [icells_take i X us h1, List.getElem?_take] at hq
  split at hq
  · rw [Addr.add_lit, Nat.zero_add]
    have hj : j < X.length * 2 := by
      rcases Nat.lt_or_ge j (X.length * 2) with k | k
      · exact k
      · rw [List.getElem?_eq_none (by rw [icells_length X us h1]; exact k)] at hq
        cases hq
    rw [h2.cellAt j hj]
    exact hq
  · cases hq

end Go.Proofs.YtbcnlggkoidmmabGreatDoor
