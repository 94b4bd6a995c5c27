/-
  Plain facts on a merge that is made step by step; nothing here speaks of the program.
  Plain facts on an item put into a list by its place; nothing here speaks of the program.
  Plain facts on the lists of short codes: they are small. Nothing here speaks of the program.
  A slice that the call itself made, of elements of one cell each, whether or not its row bears the mark of a conversion: what is read, stored, appended. Nothing here speaks of the program.
  Slices of numbers that a call made itself, by what number stands where. Nothing here speaks of the program.
-/
import Derived.Test.YtbcnlggkoidmmaaGreatDoorPk03
import Derived.Test.YtbcnlggkoidmmaaGreatDoorPk04
import Derived.Test.YtbcnlggkoidmmaaGreatDoorRows
import Derived.Test.YtbcnlggkoidmmaaGreatDoorPk01
import Derived.WalkKit
import Derived.Below
import Derived.ArgAppend
import Derived.Laws.IdiomStrings
import Derived.Laws.BytesArg
import Derived.Lib.SmallJoins
import Derived.OpenShut
import Derived.Laws.MakeOwn
namespace Go.Proofs.YtbcnlggkoidmmaaGreatDoor
namespace PackageMath

theorem drop_cons {l : List Coin} {i : Nat} (h : i < l.length) : l.drop i = l.getD i (0, []) :: l.drop (i + 1) := by
  rw [List.drop_eq_getElem_cons h, List.getD_eq_getElem?_getD, List.getElem?_eq_getElem h]
  rfl
theorem pairs_drop : ∀ (t : Nat) (l : List Coin), (pairs l).drop t = pairs (l.drop (2 * t))
  | 0, l => by simp
  | t + 1, [] => by simp [pairs]
  | t + 1, [a] => by
    rw [show 2 * (t + 1) = 2 * t + 1 + 1 by omega]
    simp [pairs]
  | t + 1, a :: b :: l => by
    rw [show 2 * (t + 1) = 2 * t + 1 + 1 by omega]
    show (pairs l).drop t = pairs (l.drop (2 * t))
    exact pairs_drop t l
/-- The pair of two items. -/
def pairOf (a b : Coin) : Coin := (a.1 + b.1, a.2 ++ b.2)
theorem pairs_here {l : List Coin} {t : Nat} (h : 2 * t + 1 < l.length) : (pairs l).drop t = pairOf (l.getD (2 * t) (0, [])) (l.getD (2 * t + 1) (0, [])) :: (pairs l).drop (t + 1) := by
  rw [pairs_drop, pairs_drop, drop_cons (show 2 * t < l.length by omega), drop_cons (show 2 * t + 1 < l.length by omega), show 2 * (t + 1) = 2 * t + 1 + 1 by omega]
  rfl
theorem pairs_done {l : List Coin} {t : Nat} (h : ¬ 2 * t + 1 < l.length) : (pairs l).drop t = [] := by
  refine List.drop_eq_nil_of_le ?_
  rw [pairs_length]
  omega
/-- A symbol is taken. -/
theorem merge_x {X Y O M : List Coin} {i : Nat} {p : Coin} (hi : i < X.length) (hle : (X.getD i (0, [])).1 ≤ p.1) (h : O ++ merge (X.drop i) (p :: Y) = M) : O ++ [X.getD i (0, [])] ++ merge (X.drop (i + 1)) (p :: Y) = M := by
  rw [← h, drop_cons hi, merge_cons, if_pos hle, List.append_assoc]
  rfl
/-- A pair is taken. -/
theorem merge_y {X Y O M : List Coin} {i : Nat} {p : Coin} (hno : ¬ (i < X.length ∧ (X.getD i (0, [])).1 ≤ p.1)) (h : O ++ merge (X.drop i) (p :: Y) = M) : O ++ [p] ++ merge (X.drop i) Y = M := by
  rw [← h, List.append_assoc]
  congr 1
  by_cases hi : i < X.length
  · rw [drop_cons hi, merge_cons, if_neg (fun q => hno ⟨hi, q⟩)]
    rfl
  · rw [List.drop_eq_nil_of_le (by omega)]
    simp [merge]

end PackageMath
end Go.Proofs.YtbcnlggkoidmmaaGreatDoor

namespace Go.Proofs.YtbcnlggkoidmmaaGreatDoor
namespace PackageMath

theorem ins_at (x : Coin) : ∀ (O : List Coin) (k : Nat), Asc O → k ≤ O.length → (k = 0 ∨ (O.getD (k - 1) (0, [])).1 ≤ x.1) → (∀ q, k ≤ q → q < O.length → x.1 < (O.getD q (0, [])).1) → O.take k ++ [x] ++ O.drop k = ins x O
  | [], k, _, hk, _, _ => by
    obtain rfl : k = 0 := by simpa using hk
    rfl
  | y :: O, 0, _, _, _, h => by
    have h0 := h 0 (Nat.le_refl _) (by simp)
    have h0' : x.1 < y.1 := by simpa using h0
    unfold ins
    rw [if_neg (by omega)]
    rfl
  | y :: O, k + 1, hA, hk, hb, h => by
    have hle : y.1 ≤ x.1 := by
      rcases hb with hb | hb
      · omega
      · cases k with
        | zero => simpa using hb
        | succ k =>
          have hk' : k < O.length := by simp at hk; omega
          have hm := hA.2.1 (O[k]'hk') (List.getElem_mem _)
          have hb' : (O[k]'hk').1 ≤ x.1 := by
            have e : ((y :: O).getD (k + 1 + 1 - 1) (0, [])) = O[k]'hk' := by
              show (y :: O).getD (k + 1) (0, []) = _
              rw [List.getD_eq_getElem?_getD, List.getElem?_cons_succ, List.getElem?_eq_getElem hk']
              rfl
            rw [e] at hb
            exact hb
          omega
    have ih := ins_at x O k hA.2.2 (by simpa using hk) (by
      cases k with
      | zero => exact .inl rfl
      | succ k =>
        right
        rcases hb with hb | hb
        · omega
        · have e : ((y :: O).getD (k + 1 + 1 - 1) (0, [])) = O.getD (k + 1 - 1) (0, []) := by
            show (y :: O).getD (k + 1) (0, []) = O.getD k (0, [])
            rw [List.getD_eq_getElem?_getD, List.getElem?_cons_succ, List.getD_eq_getElem?_getD]
          rw [e] at hb
          exact hb) (fun q hq hl => by
      have := h (q + 1) (by omega) (by simp; omega)
      rw [List.getD_eq_getElem?_getD, List.getElem?_cons_succ] at this
      rw [List.getD_eq_getElem?_getD]
      exact this)
    unfold ins
    rw [if_pos hle, ← ih]
    rfl

end PackageMath
end Go.Proofs.YtbcnlggkoidmmaaGreatDoor

namespace Go.Proofs.YtbcnlggkoidmmaaGreatDoor
namespace PackageMath

theorem pairs_mem : ∀ (l : List Coin) (p : Coin), p ∈ pairs l → ∃ a b, a ∈ l ∧ b ∈ l ∧ p = pairOf a b
  | [], p, h => by simp [pairs] at h
  | [_], p, h => by simp [pairs] at h
  | a :: b :: l, p, h => by
    rcases List.mem_cons.mp h with rfl | h
    · exact ⟨a, b, by simp, by simp, rfl⟩
    · obtain ⟨c, d, h1, h2, h3⟩ := pairs_mem l p h
      exact ⟨c, d, by simp [h1], by simp [h2], h3⟩
/-- Weights of 12000 at most, lists of one symbol, doubled k times. -/
def SmallK (k : Nat) (x : Coin) : Prop := 0 ≤ x.1 ∧ x.1 ≤ 12000 * 2 ^ k ∧ 1 ≤ x.2.length ∧ x.2.length ≤ 2 ^ k
theorem lists_small {X : List Coin} (h : ∀ x ∈ X, SmallK 0 x) : ∀ k, ∀ x ∈ lists X k, SmallK k x
  | 0, x, hx => h x hx
  | k + 1, x, hx => by
    have e : (2 : Int) ^ (k + 1) = 2 ^ k * 2 := Int.pow_succ _ _
    have e2 : (2 : Nat) ^ (k + 1) = 2 ^ k * 2 := Nat.pow_succ _ _
    have q : (1 : Int) ≤ 2 ^ k := Int.pow_pos (by omega)
    have q2 : 1 ≤ (2 : Nat) ^ k := Nat.pow_pos (by omega)
    rcases merge_mem _ _ _ hx with hx | hx
    · obtain ⟨h1, h2, h3, h4⟩ := h x hx
      refine ⟨h1, ?_, h3, ?_⟩
      · rw [e]
        have : (2 : Int) ^ 0 = 1 := rfl
        omega
      · rw [e2]
        have : (2 : Nat) ^ 0 = 1 := rfl
        omega
    · obtain ⟨a, b, ha, hb, rfl⟩ := pairs_mem _ _ hx
      obtain ⟨a1, a2, a3, a4⟩ := lists_small h k a ha
      obtain ⟨b1, b2, b3, b4⟩ := lists_small h k b hb
      refine ⟨?_, ?_, ?_, ?_⟩
      · show 0 ≤ a.1 + b.1
        omega
      · show a.1 + b.1 ≤ _
        rw [e]
        omega
      · show 1 ≤ (a.2 ++ b.2).length
        rw [List.length_append]
        omega
      · show (a.2 ++ b.2).length ≤ _
        rw [List.length_append, e2]
        omega
theorem lists_short (X : List Coin) : ∀ k, (lists X k).length ≤ 2 * X.length
  | 0 => by show X.length ≤ _; omega
  | k + 1 => by
    have := lists_short X k
    rw [lists_length]
    omega
theorem first_small {c : Nat → Int} {n : Nat} (h : ∀ i, i < n → 0 ≤ c i ∧ c i ≤ 12000) : ∀ x ∈ firstL c n, SmallK 0 x := by
  intro x hx
  obtain ⟨i, hi, _, rfl⟩ := first_mem n x hx
  have := h i hi
  exact ⟨this.1, by show c i ≤ 12000 * 2 ^ 0; simp; omega, by simp, by simp⟩
theorem smallK_bd {k : Nat} {x : Coin} (hk : k ≤ 14) (h : SmallK k x) : 0 ≤ x.1 ∧ x.1 ≤ 1000000000 ∧ 1 ≤ x.2.length ∧ x.2.length ≤ 1000000 := by
  obtain ⟨h1, h2, h3, h4⟩ := h
  have p1 : (2 : Nat) ^ k ≤ 2 ^ 14 := Nat.pow_le_pow_right (by omega) hk
  have p2 : (2 : Int) ^ k ≤ 16384 := by
    have e : ((2 ^ k : Nat) : Int) = (2 : Int) ^ k := by norm_cast
    have : (2 : Nat) ^ 14 = 16384 := rfl
    omega
  have : (2 : Nat) ^ 14 = 16384 := rfl
  omega
/-- The symbols of a list of items all lie below n. -/
theorem lists_syms {X : List Coin} {n : Nat} (h : ∀ x ∈ X, ∀ s ∈ x.2, s < n) : ∀ k, ∀ x ∈ lists X k, ∀ s ∈ x.2, s < n
  | 0, x, hx => h x hx
  | k + 1, x, hx => by
    rcases merge_mem _ _ _ hx with hx | hx
    · exact h x hx
    · obtain ⟨a, b, ha, hb, rfl⟩ := pairs_mem _ _ hx
      intro s hs
      have hs' : s ∈ a.2 ++ b.2 := hs
      rcases List.mem_append.mp hs' with hs | hs
      · exact lists_syms h k a ha s hs
      · exact lists_syms h k b hb s hs
theorem first_syms {c : Nat → Int} {n : Nat} : ∀ x ∈ firstL c n, ∀ s ∈ x.2, s < n := by
  intro x hx s hs
  obtain ⟨i, hi, _, rfl⟩ := first_mem n x hx
  have : s = i := by simpa using hs
  omega

theorem cN_one (p : Nat → Bool) : ∀ n a, a < n → p a = true → 1 ≤ cN p n
  | 0, a, h, _ => by omega
  | n + 1, a, h, ha => by
    show 1 ≤ cN p n + (if p n = true then 1 else 0)
    by_cases e : a = n
    · subst e
      rw [if_pos ha]
      omega
    · have := cN_one p n a (by omega) ha
      omega
theorem cN_two (p : Nat → Bool) : ∀ n a b, a < n → b < n → a ≠ b → p a = true → p b = true → 2 ≤ cN p n
  | 0, a, b, h, _, _, _, _ => by omega
  | n + 1, a, b, ha, hb, hne, h1, h2 => by
    show 2 ≤ cN p n + (if p n = true then 1 else 0)
    by_cases e : a = n
    · subst e
      have := cN_one p a b (by omega) h2
      rw [if_pos h1]
      omega
    · by_cases e2 : b = n
      · subst e2
        have := cN_one p b a (by omega) h1
        rw [if_pos h2]
        omega
      · have := cN_two p n a b (by omega) (by omega) hne h1 h2
        omega
/-- How many of the first k are above 0. -/
def posN (f : Nat → Int) : Nat → Nat := cN fun i => decide (f i ≠ 0)
/-- What is limited: lengths of so many counts. -/
def LimitRight (f : Nat → Int) (n : Nat) (z : Int) : Prop := n ≤ 288 ∧ 1 ≤ z ∧ z ≤ 15 ∧ (∀ i, i < n → 0 ≤ f i ∧ f i ≤ 12000) ∧ (posN f n : Int) ≤ 2 ^ z.toNat
/-- The lengths. -/
def limLen (f : Nat → Int) (n : Nat) (z : Int) : Nat → Int := fun i => if posN f n = 0 then 0 else if posN f n = 1 then (if f i = 0 then 0 else 1) else lenS f n (z.toNat - 1) i

theorem lim_none {f : Nat → Int} {n : Nat} {z : Int} (h : posN f n = 0) (i : Nat) : (0 : Int) = limLen f n z i := by
  unfold limLen
  rw [if_pos h]
theorem lim_one {f : Nat → Int} {n s : Nat} {z : Int} (h : posN f n = 1) (hs : s < n) (hfs : f s ≠ 0) (i : Nat) (hi : i < n) : (if i = s then (1 : Int) else 0) = limLen f n z i := by
  have hl : limLen f n z i = if f i = 0 then 0 else 1 := by
    unfold limLen
    rw [if_neg (show ¬ posN f n = 0 by omega), if_pos h]
  rw [hl]
  by_cases e : i = s
  · subst e
    rw [if_pos rfl, if_neg hfs]
  · rw [if_neg e]
    by_cases hz : f i = 0
    · rw [if_pos hz]
    · exfalso
      have := cN_two (fun i => decide (f i ≠ 0)) n i s hi hs e (by simpa using hz) (by simpa using hfs)
      have h' : cN (fun i => decide (f i ≠ 0)) n = 1 := h
      omega
theorem lim_more {f : Nat → Int} {n z : Nat} (h : 2 ≤ posN f n) (i : Nat) : sm (ct i) ((lists (firstL f n) (z - 1)).take (2 * posN f n - 2)) = limLen f n (z : Int) i := by
  unfold limLen
  rw [if_neg (by omega), if_neg (by omega), Int.toNat_natCast]
  unfold lenS
  rw [first_length]
  rfl
/-- One symbol more is counted. -/
theorem ct_here (L : List Coin) (i k : Nat) (_hi : i < L.length) (hk : k < (L.getD i (0, [])).2.length) (s : Nat) (hs : s = (L.getD i (0, [])).2.getD k 0) (q : Nat) :
    (if q = s then (sm (ct s) (L.take i) + ((((L.getD i (0, [])).2.take k).count s : Nat) : Int)) + 1 else sm (ct q) (L.take i) + ((((L.getD i (0, [])).2.take k).count q : Nat) : Int)) = sm (ct q) (L.take i) + ((((L.getD i (0, [])).2.take (k + 1)).count q : Nat) : Int) := by
  have e : (L.getD i (0, [])).2.take (k + 1) = (L.getD i (0, [])).2.take k ++ [s] := by
    subst hs
    generalize (L.getD i (0, [])).2 = ps at hk ⊢
    rw [List.take_succ_eq_append_getElem hk, List.getD_eq_getElem?_getD, List.getElem?_eq_getElem hk]
    rfl
  rw [e, List.count_append]
  by_cases h : q = s
  · subst h
    rw [if_pos rfl]
    simp
    omega
  · rw [if_neg h]
    have : ([s] : List Nat).count q = 0 := List.count_eq_zero.mpr (by simpa using h)
    omega
theorem ct_done (L : List Coin) (i : Nat) (hi : i < L.length) (q : Nat) : sm (ct q) (L.take i) + ((((L.getD i (0, [])).2.take (L.getD i (0, [])).2.length).count q : Nat) : Int) = sm (ct q) (L.take (i + 1)) := by
  rw [List.take_of_length_le (Nat.le_refl _)]
  rw [sm_take (ct q) L i (by omega), sm_take (ct q) L (i + 1) (by omega)]
  rfl

end PackageMath
end Go.Proofs.YtbcnlggkoidmmaaGreatDoor

namespace Go.Proofs.YtbcnlggkoidmmaaGreatDoor
open Go.RowKit Go.Joins

/-- The slice v lies at the head of block g, which is the call's own, and holds xs; none of its cells is frozen. -/
def Own (e : TypeId) (w : World) (base g : Nat) (v : Value) (xs : List Value) : Prop :=
  ∃ cap cur fz, v = .slice (some ⟨g, 0, none⟩) xs.length cap ∧ base ≤ g ∧ w.heap[g]? = some (.cells cur e fz) ∧ (fz.2 = 0 ∨ cap ≤ fz.1) ∧ xs.length ≤ cap ∧ cap ≤ maxLen ∧ cur.size = cap ∧ cur.toList.take xs.length = xs

section
variable {e : TypeId} {w w' : World} {base g : Nat} {v : Value} {xs : List Value}

theorem Own.form (h : Own e w base g v xs) : ∃ cap, v = .slice (some ⟨g, 0, none⟩) xs.length cap := by
  obtain ⟨cap, cur, fz, hv, _⟩ := h
  exact ⟨cap, hv⟩
theorem Own.base_le (h : Own e w base g v xs) : base ≤ g := by
  obtain ⟨cap, cur, fz, _, hb, _⟩ := h
  exact hb
theorem Own.lt (h : Own e w base g v xs) : g < w.heap.size := by
  obtain ⟨cap, cur, fz, _, _, hg, _⟩ := h
  rcases Nat.lt_or_ge g w.heap.size with k | k
  · exact k
  · rw [Array.getElem?_eq_none k] at hg; cases hg
theorem Own.keep (h : Own e w base g v xs) (hk : w'.heap[g]? = w.heap[g]?) : Own e w' base g v xs := by
  obtain ⟨cap, cur, fz, h1, h2, h3, h4⟩ := h
  exact ⟨cap, cur, fz, h1, h2, hk.trans h3, h4⟩
theorem Own.alloc (h : Own e w base g v xs) (o : Obj) : Own e (w.alloc o) base g v xs := h.keep (Below.heap_alloc w o g h.lt)
theorem Own.drewN (h : Own e w base g v xs) (n : Nat) : Own e (w.drewN n) base g v xs := h.keep rfl
theorem Own.below {B : Nat} (h : Own e w base g v xs) (hb : Below B w w') (hg : g < B) : Own e w' base g v xs := h.keep (hb.block g hg)
theorem Own.mono {b : Nat} (h : Own e w base g v xs) (hb : b ≤ base) : Own e w b g v xs := by
  obtain ⟨cap, cur, fz, h1, h2, h3⟩ := h
  exact ⟨cap, cur, fz, h1, Nat.le_trans hb h2, h3⟩
theorem Own.cell (h : Own e w base g v xs) (j : Nat) (hj : j < xs.length) : w.cell? ⟨g, j, none⟩ = some xs[j] := by
  obtain ⟨cap, cur, fz, _, _, hg, _, _, _, _, ht⟩ := h
  have e1 : w.cell? ⟨g, j, none⟩ = cur[j]? := cell_of_block hg j
  rw [e1]
  have e2 : (cur.toList.take xs.length)[j]? = cur[j]? := by
    rw [List.getElem?_take, if_pos hj]
    simp
  rw [← e2, ht, List.getElem?_eq_getElem hj]
theorem Own.free (h : Own e w base g v xs) (j : Nat) (hj : j < xs.length) : w.frozen? ⟨g, j, none⟩ = false := by
  obtain ⟨cap, cur, fz, _, _, hg, hf, hn, _⟩ := h
  obtain ⟨lo, hi⟩ := fz
  simp only [World.frozen?, hg]
  simp only at hf
  rw [Bool.and_eq_false_iff]
  rcases hf with hf | hf
  · right; simp; omega
  · left; simp; omega
theorem Own.set (h : Own e w base g v xs) (j : Nat) (_hj : j < xs.length) (u : Value) : Own e (w.setCell ⟨g, j, none⟩ u) base g v (xs.set j u) := by
  obtain ⟨cap, cur, fz, h1, h2, hg, h4, h5, h6, h7, ht⟩ := h
  refine ⟨cap, cur.setIfInBounds j u, fz, ?_, h2, block_setCell (i := j) hg u, h4, ?_, h6, ?_, ?_⟩
  · rw [List.length_set]; exact h1
  · rw [List.length_set]; exact h5
  · simpa using h7
  · rw [List.length_set, Array.toList_setIfInBounds, List.take_set, ht]

theorem own_of_ownsRow {n : Nat} {b : Nat} (h : w.ownsRow b e 1 v n xs) (hn : 0 < n) : ∃ g, b ≤ g ∧ Own e w b g v xs := by
  obtain ⟨hl, hh⟩ := h
  have hl' : xs.length = n := by simpa using hl
  rcases hh with ⟨_, h0⟩ | ⟨g, cap, cur, hv, hb, hg, hnc, hcm, hcs, ht⟩
  · omega
  · refine ⟨g, hb, cap, cur, (0, 0), by rw [hl']; exact hv, hb, hg, .inl rfl, by omega, hcm, by simpa using hcs, ?_⟩
    rw [hl']; simpa using ht

/-- '[]byte(s)'. -/
theorem own_of_bytes (w : World) (e : TypeId) (s : ByteArray) (hs : s.size ≤ maxLen) (hb : base ≤ w.heap.size) :
    Own e (w.drew.alloc (.cells (bytesRow s (grownCap w s.size 0 e)) e ((bytesRow s (grownCap w s.size 0 e)).size, (bytesRow s (grownCap w s.size 0 e)).size + 1))) base w.heap.size (.slice (some ⟨w.heap.size, 0, none⟩) s.size (grownCap w s.size 0 e)) (s.data.toList.map fun b => .int .u8 b.toNat) := by
  have hl : (s.data.toList.map fun b => Value.int .u8 (b.toNat : Int)).length = s.size := by simp
  have hsz : (bytesRow s (grownCap w s.size 0 e)).size = grownCap w s.size 0 e := by
    have := grownCap_ge w s.size 0 e
    simp [bytesRow]
    omega
  refine ⟨grownCap w s.size 0 e, _, _, by rw [hl], hb, heap_alloc_new w.drew _, .inr (by rw [hsz]; exact Nat.le_refl _), by rw [hl]; exact grownCap_ge w s.size 0 e, grownCap_le_maxLen w s.size 0 e hs, hsz, ?_⟩
  rw [hl]
  unfold bytesRow
  rw [Array.toList_append, List.take_append_of_le_length (by simp)]
  rw [List.take_of_length_le (by simp)]
  simp

variable {P : Program}

theorem run_append1 (t ty : TypeId) (i : TypeInfo) (z : Value) (bytes : Nat) (ht : P.underlying t = some (.slice e)) (hi : P.info? e = some i) (hz : i.zero = some z) (hs1 : i.size = 1) (hby : i.bytes = bytes) (hzs : z.cells.size = 1)
    (h : Own e w base g v xs) (ad : Addr) (c : Nat) (x : Value) (hx : w.cell? ad = some x) (hspot : ad.spot = none) (h1 : x.oneCell' = true) (h63 : xs.length + 1 ≤ maxLen) (hbytes : (xs.length + 1) * bytes ≤ 140737488355328) :
    ∃ g' v' w', (Builtin.append_ #[t, t] ty #[v, .slice (some ad) 1 c]).run P w = .ok v' w' ∧ Own e w' base g' v' (xs ++ [x]) ∧ (g' = g ∨ w.heap.size ≤ g') ∧ w.grownBy w' (some g) := by
  have hlt := h.lt
  obtain ⟨cap, cur, fz, hv, hb, hg, hf, hn, hcm, hcs, htk⟩ := id h
  have hnews : ∀ (j : Nat) (u : Value), [x][j]? = some u → w.cell? (ad.add j) = some u := by
    intro j u hj
    match j, hj with
    | 0, hj =>
      simp at hj
      subst hj
      obtain ⟨ab, ao, asp⟩ := ad
      simp only at hspot
      subst hspot
      simpa [Addr.add] using hx
  subst hv
  by_cases hroom : xs.length + 1 ≤ cap
  · have hc : ∀ j, j < [x].length → (w.cell? ⟨g, 0 + xs.length * i.size + j, none⟩).isSome = true := by
      intro j hj
      have : j = 0 := by simpa using hj
      subst this
      rw [hs1, show 0 + xs.length * 1 + 0 = xs.length by omega, cell_of_block hg, Array.getElem?_eq_getElem (by omega)]
      rfl
    have hfz : ∀ j, j < [x].length → w.frozen? ⟨g, 0 + xs.length * i.size + j, none⟩ = false := by
      intro j hj
      have : j = 0 := by simpa using hj
      subst this
      rw [hs1, show 0 + xs.length * 1 + 0 = xs.length by omega]
      obtain ⟨lo, hi'⟩ := fz
      simp only [World.frozen?, hg]
      simp only at hf
      rw [Bool.and_eq_false_iff]
      rcases hf with hf | hf
      · right; simp; omega
      · left; simp; omega
    have hr := run_append_room_cells (P := P) w t ty e i ht hi g 0 xs.length cap ad 1 c [x] (by simp [hs1]) hnews (by simpa using h1) hroom hc hfz
    rw [hs1, show 0 + xs.length * 1 = xs.length by omega] at hr
    refine ⟨g, _, _, hr, ?_, .inl rfl, ?_⟩
    · show Own e (w.setCell ⟨g, xs.length, none⟩ x) base g _ _
      refine ⟨cap, cur.setIfInBounds xs.length x, fz, by simp, hb, block_setCell (i := xs.length) hg x, hf, by simpa using hroom, hcm, by simpa using hcs, ?_⟩
      rw [Array.toList_setIfInBounds]
      rw [List.length_append, List.length_singleton]
      have hlen : xs.length < cur.toList.length := by simp; omega
      rw [List.take_succ_eq_append_getElem (by simpa using hlen)]
      rw [List.take_set, List.getElem_set_self]
      rw [htk, List.set_eq_of_length_le (by omega)]
    · show w.grownBy (w.setCell ⟨g, xs.length, none⟩ x) (some g)
      refine ⟨rfl, rfl, rfl, by simp, fun k hk hne => ?_⟩
      exact Below.heap_setCell w _ _ k (by simpa using hne)
  · obtain ⟨v', w', hrun, r1, r2⟩ := run_append_arg_grows (P := P) w t ty e i z 1 bytes ht hi hz hs1 hby hzs (by decide) ⟨g, 0, none⟩ xs.length cap xs (by simp) (fun j u hj => by
      have hj' : j < xs.length := by
        rcases Nat.lt_or_ge j xs.length with k | k
        · exact k
        · rw [List.getElem?_eq_none k] at hj; cases hj
      rw [List.getElem?_eq_getElem hj'] at hj
      have := h.cell j hj'
      rw [Addr.add_lit, Nat.zero_add, this, hj]) ad 1 c [x] (by simp) hnews (by omega) h63 hbytes
    obtain ⟨g', hg', ho⟩ := own_of_ownsRow r1 (by omega)
    refine ⟨g', v', w', hrun, ho.mono ?_, .inr hg', ?_⟩
    · omega
    · obtain ⟨a1, a2, a3, a4, a5⟩ := r2
      exact ⟨a1, a2, a3, a4, fun k hk _ => a5 k hk (by simp)⟩

/-- 'append(v, x)', for the walk. -/
theorem wpList_append1 {ops : Array Oper} {rest : List Oper} {o : Oper} {a : Act} {Q : Exit → Act → World → Prop} (hgd : o.guard = none) (s y : Operand) (t : TypeId)
    (hop : o.op = .call { callee := .builtin .append, args := #[s, y], argTypes := #[t, t] })
    (i : TypeInfo) (z : Value) (bytes : Nat) (ht : P.underlying t = some (.slice e)) (hi : P.info? e = some i) (hz : i.zero = some z) (hs1 : i.size = 1) (hby : i.bytes = bytes) (hzs : z.cells.size = 1)
    (hs : a.eval s = v) (h : Own e w base g v xs) (ad : Addr) (c : Nat) (x : Value) (hy : a.eval y = .slice (some ad) 1 c) (hx : w.cell? ad = some x) (hspot : ad.spot = none) (h1 : x.oneCell' = true) (h63 : xs.length + 1 ≤ maxLen) (hbytes : (xs.length + 1) * bytes ≤ 140737488355328)
    (hK : ∀ g' v' w', Own e w' base g' v' (xs ++ [x]) → (g' = g ∨ w.heap.size ≤ g') → w.grownBy w' (some g) → wpList P ops Q rest (a.put o.dst v') w') : wpList P ops Q (o :: rest) a w := by
  refine wpList_plain hgd fun K hK' => ?_
  obtain ⟨g', v', w', hrun, r1, r2, r3⟩ := run_append1 (P := P) t o.type i z bytes ht hi hz hs1 hby hzs h ad c x hx hspot h1 h63 hbytes
  unfold Oper.wp
  simp [execOp, hop, resolve, invoke, builtin, hs, hy, hrun, Result.andThen]
  exact hK' _ _ (hK g' v' w' r1 r2 r3)

/-- 'string(v)', v bytes. -/
theorem own_string (zs : List Int) (src dst : TypeId) (hsrc : P.underlying src = some (.slice e)) (he : P.underlying e = some (.int .u8)) (hd : P.underlying dst = some .string) (h : Own e w base g v (zs.map (Value.int .u8))) :
    (convert src dst v).run P w = .ok (.string (strOfNums zs)) w := by
  obtain ⟨cap, hv⟩ := h.form
  subst hv
  refine run_convert_bytes_arg w src e hsrc he g 0 _ cap zs (by simp) (fun i hi => ?_) dst hd
  have hc := h.cell i (by simpa using hi)
  have hi' : i < zs.length := by simpa using hi
  rw [Nat.zero_add, hc]
  simp [hi']

end
end Go.Proofs.YtbcnlggkoidmmaaGreatDoor

namespace Go.Proofs.YtbcnlggkoidmmaaGreatDoor
open Go.RowKit Go.Joins

def fints (f : Nat → Int) (n : Nat) : List Value := (List.range n).map fun i => .int .i64 (f i)
/-- f with x at the place j. -/
def upd (f : Nat → Int) (j : Nat) (x : Int) : Nat → Int := fun i => if i = j then x else f i
theorem fints_length (f : Nat → Int) (n : Nat) : (fints f n).length = n := by simp [fints]
theorem fints_get (f : Nat → Int) (n j : Nat) (h : j < (fints f n).length) : (fints f n)[j] = .int .i64 (f j) := by simp [fints]
theorem fints_congr {f g : Nat → Int} {n : Nat} (h : ∀ i, i < n → f i = g i) : fints f n = fints g n := by
  unfold fints
  refine List.map_congr_left fun i hi => ?_
  rw [h i (List.mem_range.mp hi)]
theorem fints_set (f : Nat → Int) (n j : Nat) (x : Int) : (fints f n).set j (.int .i64 x) = fints (upd f j x) n := by
  refine List.ext_getElem (by simp [fints]) fun i h1 h2 => ?_
  rw [List.getElem_set, fints_get (upd f j x)]
  by_cases hij : j = i
  · subst hij
    rw [if_pos rfl]
    simp [upd]
  · have hji : ¬ i = j := fun h => hij h.symm
    rw [if_neg hij, fints_get]
    simp [upd, hji]
/-- The slice at the head of block g is the call's own and holds f 0, .., f (n - 1). -/
def IOwn (w : World) (base g n cap : Nat) (f : Nat → Int) : Prop := Own 3 w base g (.slice (some ⟨g, 0, none⟩) n cap) (fints f n)

section
variable {w w' : World} {base g n cap : Nat} {f : Nat → Int}
theorem IOwn.lt (h : IOwn w base g n cap f) : g < w.heap.size := Own.lt h
theorem IOwn.base_le (h : IOwn w base g n cap f) : base ≤ g := Own.base_le h
theorem IOwn.cell (h : IOwn w base g n cap f) (j : Nat) (hj : j < n) : w.cell? ⟨g, j, none⟩ = some (.int .i64 (f j)) := by
  have h' : j < (fints f n).length := by rw [fints_length]; exact hj
  rw [Own.cell h j h', fints_get]
theorem IOwn.free (h : IOwn w base g n cap f) (j : Nat) (hj : j < n) : w.frozen? ⟨g, j, none⟩ = false := Own.free h j (by rw [fints_length]; exact hj)
theorem IOwn.set (h : IOwn w base g n cap f) (j : Nat) (hj : j < n) (x : Int) : IOwn (w.setCell ⟨g, j, none⟩ (.int .i64 x)) base g n cap (upd f j x) := by
  have k := Own.set h j (by rw [fints_length]; exact hj) (.int .i64 x)
  rw [fints_set] at k
  exact k
theorem IOwn.congr {f' : Nat → Int} (h : IOwn w base g n cap f) (e : ∀ i, i < n → f i = f' i) : IOwn w base g n cap f' := by
  unfold IOwn at h ⊢
  rw [← fints_congr e]
  exact h
theorem IOwn.keep (h : IOwn w base g n cap f) (hk : w'.heap[g]? = w.heap[g]?) : IOwn w' base g n cap f := Own.keep h hk
theorem IOwn.alloc (h : IOwn w base g n cap f) (o : Obj) : IOwn (w.alloc o) base g n cap f := Own.alloc h o
theorem IOwn.drew (h : IOwn w base g n cap f) : IOwn w.drew base g n cap f := Own.drewN h 1
theorem IOwn.below {B : Nat} (h : IOwn w base g n cap f) (hb : Below B w w') (hg : g < B) : IOwn w' base g n cap f := Own.below h hb hg
/-- Behind a call that turned nothing old. -/
theorem IOwn.called (h : IOwn w base g n cap f) (hb : Below w.heap.size w w') : IOwn w' base g n cap f := Own.below h hb h.lt
theorem IOwn.mono {b : Nat} (h : IOwn w base g n cap f) (hb : b ≤ base) : IOwn w b g n cap f := Own.mono h hb
theorem IOwn.grown {row : Option Nat} (h : IOwn w base g n cap f) (hg : w.grownBy w' row) (hne : row ≠ some g) : IOwn w' base g n cap f := h.keep (hg.block g h.lt (Ne.symm hne))

theorem made_ints (n : Nat) : (madeCells #[Value.int .i64 0] n).toList = fints (fun _ => 0) n := by
  unfold madeCells fints
  rw [Array.toList_map, Array.toList_range]
  refine List.map_congr_left fun i _ => ?_
  simp [Nat.mod_one]

/-- 'make([]int, n)'. -/
theorem IOwn.made (w : World) (n : Nat) (hn : n ≤ maxLen) (hb : base ≤ w.heap.size) : IOwn (w.alloc (.cells (madeCells #[Value.int .i64 0] n) 3)) base w.heap.size n n (fun _ => 0) := by
  refine ⟨n, madeCells #[Value.int .i64 0] n, (0, 0), by rw [fints_length], hb, heap_alloc_new w _, .inl rfl, by rw [fints_length]; exact Nat.le_refl _, hn, by simp [madeCells], ?_⟩
  rw [made_ints, fints_length, List.take_of_length_le (by rw [fints_length]; exact Nat.le_refl _)]
end

/-- A slice of numbers that came in: it is empty, or its numbers lie from place 'off' of an old block on. -/
def Came (w : World) (a : Option Addr) (n : Nat) (f : Nat → Int) : Prop :=
  n = 0 ∨ ∃ g off, a = some ⟨g, off, none⟩ ∧ g < w.heap.size ∧ ∀ j, j < n → w.cell? ⟨g, off + j, none⟩ = some (.int .i64 (f j))
theorem Came.called {w w' : World} {a : Option Addr} {n : Nat} {f : Nat → Int} (h : Came w a n f) (hb : Below w.heap.size w w') : Came w' a n f := by
  rcases h with h | ⟨g, off, ha, hg, hc⟩
  · exact .inl h
  · exact .inr ⟨g, off, ha, Nat.lt_of_lt_of_le hg hb.size, fun j hj => (hb.cell (p := ⟨g, off + j, none⟩) hg).trans (hc j hj)⟩

/-- A slice that was handed back: it is empty, or the maker's own. -/
def SL (w : World) (base : Nat) (a : Option Addr) (n cap : Nat) (f : Nat → Int) : Prop := n = 0 ∨ ∃ g, a = some ⟨g, 0, none⟩ ∧ IOwn w base g n cap f
theorem SL.came {w : World} {base : Nat} {a : Option Addr} {n cap : Nat} {f : Nat → Int} (h : SL w base a n cap f) : Came w a n f := by
  rcases h with h | ⟨g, rfl, h⟩
  · exact .inl h
  · exact .inr ⟨g, 0, rfl, h.lt, fun j hj => by rw [Nat.zero_add]; exact h.cell j hj⟩
theorem SL.called {w w' : World} {base : Nat} {a : Option Addr} {n cap : Nat} {f : Nat → Int} (h : SL w base a n cap f) (hb : Below w.heap.size w w') : SL w' base a n cap f := by
  rcases h with h | ⟨g, rfl, h⟩
  · exact .inl h
  · exact .inr ⟨g, rfl, h.called hb⟩
theorem IOwn.sl {w : World} {base g n cap : Nat} {f : Nat → Int} (h : IOwn w base g n cap f) : SL w base (some ⟨g, 0, none⟩) n cap f := .inr ⟨g, rfl, h⟩
/-- An old slice behind what turned one new block. -/
theorem Came.grown {w w' : World} {a : Option Addr} {n B : Nat} {f : Nat → Int} {row : Option Nat} (h : Came w a n f) (hB : ∀ g off, a = some ⟨g, off, none⟩ → g < B) (hr : ∀ k, row = some k → B ≤ k) (hg : w.grownBy w' row) : Came w' a n f := by
  rcases h with h | ⟨g, off, ha, hlt, hc⟩
  · exact .inl h
  · refine .inr ⟨g, off, ha, Nat.lt_of_lt_of_le hlt hg.size, fun j hj => ?_⟩
    have hne : some g ≠ row := fun e => by have h1 := hB g off ha; have h2 := hr g e.symm; omega
    have hb := hg.block g hlt hne
    rw [← hc j hj]
    unfold World.cell?
    rw [hb]

end Go.Proofs.YtbcnlggkoidmmaaGreatDoor
