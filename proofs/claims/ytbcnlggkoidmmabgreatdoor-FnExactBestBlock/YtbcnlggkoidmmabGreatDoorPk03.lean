/-
  Lengths and distances by their symbols, in plain numbers: steps that grow. Nothing here speaks of the program.
  Unpacking, in plain numbers: what comes of a packed text, or which code is met first. Nothing here speaks of the program.
  The fixed codes: that they are codes, and what a block of type 1 is. Nothing here speaks of the program.
  A list's length when what is 0 at its end is left out; tokens that are all right. Nothing here speaks of the program.
  A slice that the call itself made, of elements of one cell each, whether or not its row bears the mark of a conversion: what is read, stored, appended. Nothing here speaks of the program.
  Slices of numbers that a call made itself, by what number stands where. Nothing here speaks of the program.
  How often each symbol of tokens is met (chapter 9). Nothing here speaks of the program.
  The symbols of tokens, in order: each by the first code or the second, with its extra bits. Nothing here speaks of the program.
  Parts of a block: numbers and codes, each in so many bits; the bits of a list of parts. Nothing here speaks of the program.
-/
import Derived.Test.YtbcnlggkoidmmabGreatDoorPk01
import Derived.Test.YtbcnlggkoidmmabGreatDoorPk02
import Derived.Test.YtbcnlggkoidmmabGreatDoorRows
import Derived.WalkKit
import Derived.Below
import Derived.ArgAppend
import Derived.Laws.IdiomStrings
import Derived.Laws.BytesArg
import Derived.Lib.SmallJoins
import Derived.OpenShut
import Derived.Laws.MakeOwn
namespace Go.Proofs.YtbcnlggkoidmmabGreatDoor.StepMath

/-- How many extra bits the step j has, where each k steps have one more. -/
def bitsN (k j : Nat) : Nat := (j - k) / k
/-- The least number of the step j. -/
def fromN (c k : Nat) : Nat → Nat
  | 0 => c
  | j + 1 => fromN c k j + 2 ^ bitsN k j
/-- The last step below m that begins at n or ahead of it. -/
def findN (c k n : Nat) : Nat → Nat
  | 0 => 0
  | m + 1 => if fromN c k m ≤ n then m else findN c k n m
theorem pow_pos2 (j : Nat) : 1 ≤ 2 ^ j := Nat.one_le_two_pow
theorem from_lt (c k j : Nat) : fromN c k j < fromN c k (j + 1) := by
  have := pow_pos2 (bitsN k j)
  show fromN c k j < fromN c k j + 2 ^ bitsN k j
  omega
theorem from_mono (c k : Nat) : ∀ d i, fromN c k i ≤ fromN c k (i + d)
  | 0, _ => Nat.le_refl _
  | d + 1, i => Nat.le_trans (from_mono c k d i) (Nat.le_of_lt (from_lt c k (i + d)))
theorem from_le {c k i j : Nat} (h : i ≤ j) : fromN c k i ≤ fromN c k j := by
  obtain ⟨d, rfl⟩ := Nat.exists_eq_add_of_le h
  exact from_mono c k d i
theorem find_spec {c k n : Nat} (hc : c ≤ n) : ∀ m, 0 < m → findN c k n m < m ∧ fromN c k (findN c k n m) ≤ n ∧ ∀ j, findN c k n m < j → j < m → n < fromN c k j
  | 0, h => by omega
  | m + 1, _ => by
    unfold findN
    split
    · rename_i h
      exact ⟨by omega, h, fun j h1 h2 => by omega⟩
    · rename_i h
      rcases Nat.eq_zero_or_pos m with h0 | h0
      · subst h0
        exact absurd hc h
      · obtain ⟨q1, q2, q3⟩ := find_spec (c := c) (k := k) hc m h0
        refine ⟨by omega, q2, fun j h1 h2 => ?_⟩
        rcases Nat.lt_or_ge j m with h3 | h3
        · exact q3 j h1 h3
        · have : j = m := by omega
          subst this
          omega
/-- The step is told by its ends. -/
theorem find_told {c k n m j : Nat} (h1 : fromN c k j ≤ n) (h2 : n < fromN c k (j + 1)) (hj : j < m) (hc : c ≤ n) : findN c k n m = j := by
  obtain ⟨q1, q2, q3⟩ := find_spec (c := c) (k := k) hc m (by omega)
  rcases Nat.lt_trichotomy (findN c k n m) j with h | h | h
  · have := q3 j h hj
    omega
  · exact h
  · have := from_le (c := c) (k := k) (show j + 1 ≤ findN c k n m from h)
    omega
theorem find_in {c k n m : Nat} (hc : c ≤ n) (hm : n < fromN c k m) : findN c k n m < m ∧ fromN c k (findN c k n m) ≤ n ∧ n < fromN c k (findN c k n m + 1) := by
  have h0 : 0 < m := by
    rcases Nat.eq_zero_or_pos m with h | h
    · subst h
      have : n < c := hm
      omega
    · exact h
  obtain ⟨q1, q2, q3⟩ := find_spec (c := c) (k := k) hc m h0
  refine ⟨q1, q2, ?_⟩
  rcases Nat.lt_or_ge (findN c k n m + 1) m with h | h
  · exact q3 _ (Nat.lt_succ_self _) h
  · have : findN c k n m + 1 = m := by omega
    rw [this]
    exact hm
theorem find_extra {c k n m : Nat} (hc : c ≤ n) (hm : n < fromN c k m) : n - fromN c k (findN c k n m) < 2 ^ bitsN k (findN c k n m) := by
  obtain ⟨_, h1, h2⟩ := find_in hc hm
  have : fromN c k (findN c k n m + 1) = fromN c k (findN c k n m) + 2 ^ bitsN k (findN c k n m) := rfl
  omega
theorem find_step (c k n m : Nat) : findN c k n (m + 1) = if fromN c k m ≤ n then m else findN c k n m := rfl

/-! Lengths: steps of 4 from 3 on; the 28th would begin at 259. Distances: steps of 2 from 1 on; the 30th would begin at 32769. -/
theorem len_8 : fromN 3 4 8 = 11 := by decide
theorem len_28 : fromN 3 4 28 = 259 := by decide
theorem dist_4 : fromN 1 2 4 = 5 := by decide
theorem dist_30 : fromN 1 2 30 = 32769 := by decide
theorem len_small : ∀ j, j ≤ 8 → fromN 3 4 j = 3 + j ∧ bitsN 4 j ≤ 1 := by decide
theorem dist_small : ∀ j, j ≤ 4 → fromN 1 2 j = 1 + j ∧ bitsN 2 j ≤ 1 := by decide
theorem len_bits : ∀ j, j < 28 → bitsN 4 j ≤ 5 ∧ (j < 8 → bitsN 4 j = 0) := by decide
theorem dist_bits : ∀ j, j < 30 → bitsN 2 j ≤ 13 ∧ (j < 4 → bitsN 2 j = 0) := by decide
/-- The symbol of a length, its extra bits, and what they are. -/
def lenCode (n : Nat) : Nat × Nat × Nat := if n < 258 then (257 + findN 3 4 n 28, bitsN 4 (findN 3 4 n 28), n - fromN 3 4 (findN 3 4 n 28)) else (285, 0, 0)
def distCode (n : Nat) : Nat × Nat × Nat := (findN 1 2 n 30, bitsN 2 (findN 1 2 n 30), n - fromN 1 2 (findN 1 2 n 30))
/-- What the functions answer, at every number. -/
def LengthCodeOf (n : Int) : Int × Int × Int := if 3 ≤ n ∧ n ≤ 258 then (((lenCode n.toNat).1 : Int), ((lenCode n.toNat).2.1 : Int), ((lenCode n.toNat).2.2 : Int)) else (0, 0, 0)
def DistCodeOf (n : Int) : Int × Int × Int := if 1 ≤ n ∧ n ≤ 32768 then (((distCode n.toNat).1 : Int), ((distCode n.toNat).2.1 : Int), ((distCode n.toNat).2.2 : Int)) else (0, 0, 0)
theorem len_fact {n : Nat} (h3 : 3 ≤ n) (h : n < 258) : findN 3 4 n 28 < 28 ∧ fromN 3 4 (findN 3 4 n 28) ≤ n ∧ n - fromN 3 4 (findN 3 4 n 28) < 2 ^ bitsN 4 (findN 3 4 n 28) := by
  have h1 := len_28
  have h2 := find_in (c := 3) (k := 4) (n := n) (m := 28) h3 (by omega)
  exact ⟨h2.1, h2.2.1, find_extra h3 (by omega)⟩
theorem dist_fact {n : Nat} (h1 : 1 ≤ n) (h : n ≤ 32768) : findN 1 2 n 30 < 30 ∧ fromN 1 2 (findN 1 2 n 30) ≤ n ∧ n - fromN 1 2 (findN 1 2 n 30) < 2 ^ bitsN 2 (findN 1 2 n 30) := by
  have h2 := dist_30
  have h3 := find_in (c := 1) (k := 2) (n := n) (m := 30) h1 (by omega)
  exact ⟨h3.1, h3.2.1, find_extra h1 (by omega)⟩
theorem pow_cast (m : Nat) : ((2 ^ m : Nat) : Int) = (2 : Int) ^ m := by
  induction m with
  | zero => rfl
  | succ m ih => rw [Nat.pow_succ, Int.pow_succ, Int.natCast_mul, ih]; rfl

end Go.Proofs.YtbcnlggkoidmmabGreatDoor.StepMath

namespace Go.Proofs.YtbcnlggkoidmmabGreatDoor.InfMath
open OutMath CodeMath TakeMath HitMath StepMath TokMath RunsMath

section
variable (s : ByteArray) (most : Nat)
/-- In which order the lengths of the third code come. -/
def orderL : List Nat := [16, 17, 18, 0, 8, 7, 9, 6, 10, 5, 11, 4, 12, 3, 13, 2, 14, 1, 15]
/-- What the lengths must be. -/
def TabRight (n : Nat) (L : List Int) : Prop := (kindOf (fun i => L.getD i 0) n = 2 ∨ kindOf (fun i => L.getD i 0) n = 3) ∧ L.getD 256 0 ≠ 0 ∧ (kindOf (fun i => (L.drop n).getD i 0) (L.length - n) = 1 ∨ kindOf (fun i => (L.drop n).getD i 0) (L.length - n) = 2 ∨ kindOf (fun i => (L.drop n).getD i 0) (L.length - n) = 3)
instance (n : Nat) (L : List Int) : Decidable (TabRight n L) := by unfold TabRight; exact inferInstance
/-- The lengths of type 1. -/
def fixed1 (i : Nat) : Int := if i < 144 then 8 else if i < 256 then 9 else if i < 280 then 7 else 8
def fixed2 (_ : Nat) : Int := 5
end
end Go.Proofs.YtbcnlggkoidmmabGreatDoor.InfMath

namespace Go.Proofs.YtbcnlggkoidmmabGreatDoor
open CodeMath InfMath

theorem fixed1_coded : Coded fixed1 288 := by
  refine ⟨by decide, fun i _ => ?_, ?_⟩
  · unfold fixed1
    repeat' split
    all_goals omega
  · decide +kernel
theorem fixed2_coded : Coded fixed2 32 := by
  refine ⟨by decide, fun i _ => ?_, ?_⟩
  · unfold fixed2
    omega
  · decide +kernel
end Go.Proofs.YtbcnlggkoidmmabGreatDoor

namespace Go.Proofs.YtbcnlggkoidmmabGreatDoor
namespace TrimMath
open TokMath

/-- What is left when what is 0 at the end is left out, but the first least ones. -/
def trimN (f : Nat → Int) (least : Nat) : Nat → Nat
  | 0 => 0
  | n + 1 => if least < n + 1 ∧ f n = 0 then trimN f least n else n + 1
theorem trimN_zero {f : Nat → Int} {least n : Nat} (h : least < n + 1) (h0 : f n = 0) : trimN f least (n + 1) = trimN f least n := if_pos ⟨h, h0⟩
theorem trimN_keep {f : Nat → Int} {least n : Nat} (h0 : f n ≠ 0) : trimN f least (n + 1) = n + 1 := if_neg fun h => h0 h.2
theorem trimN_least {f : Nat → Int} {least : Nat} : ∀ {n : Nat}, n ≤ least → trimN f least n = n
  | 0, _ => rfl
  | _ + 1, h => if_neg fun q => by omega
theorem trimN_le (f : Nat → Int) (least : Nat) : ∀ n, trimN f least n ≤ n
  | 0 => Nat.le_refl _
  | n + 1 => by
    unfold trimN
    split
    · have := trimN_le f least n
      omega
    · exact Nat.le_refl _
theorem trimN_ge (f : Nat → Int) (least : Nat) : ∀ n, least ≤ n → least ≤ trimN f least n
  | 0, h => h
  | n + 1, h => by
    unfold trimN
    split
    · exact trimN_ge f least n (by omega)
    · exact h
/-- What is left out is 0. -/
theorem trimN_out (f : Nat → Int) (least : Nat) : ∀ n i, trimN f least n ≤ i → i < n → f i = 0
  | 0, i, _, h => by omega
  | n + 1, i, h1, h2 => by
    unfold trimN at h1
    split at h1
    · rename_i q
      by_cases e : i = n
      · rw [e]; exact q.2
      · exact trimN_out f least n i h1 (by omega)
    · omega

/-- Tokens that are all right, and not too many. -/
def TokensRight (L : List Tok) : Prop := L.length ≤ 12000 ∧ ∀ t ∈ L, TokRight t
instance (L : List Tok) : Decidable (TokensRight L) := by unfold TokensRight; exact inferInstance
end TrimMath
end Go.Proofs.YtbcnlggkoidmmabGreatDoor

namespace Go.Proofs.YtbcnlggkoidmmabGreatDoor
open Go.RowKit Go.Joins

/-- The slice v lies at the head of block g, which is the call's own, and holds xs; none of its cells is frozen. -/
def Own (e : TypeId) (w : World) (base g : Nat) (v : Value) (xs : List Value) : Prop :=
  ∃ cap cur fz, v = .slice (some ⟨g, 0, none⟩) xs.length cap ∧ base ≤ g ∧ w.heap[g]? = some (.cells cur e fz) ∧ (fz.2 = 0 ∨ cap ≤ fz.1) ∧ xs.length ≤ cap ∧ cap ≤ maxLen ∧ cur.size = cap ∧ cur.toList.take xs.length = xs

section
variable {e : TypeId} {w w' : World} {base g : Nat} {v : Value} {xs : List Value}

theorem Own.form (h : Own e w base g v xs) : ∃ cap, v = .slice (some ⟨g, 0, none⟩) xs.length cap := by
  obtain ⟨cap, cur, fz, hv, _⟩ := h
  exact ⟨cap, hv⟩
theorem Own.base_le (h : Own e w base g v xs) : base ≤ g := by
  obtain ⟨cap, cur, fz, _, hb, _⟩ := h
  exact hb
theorem Own.lt (h : Own e w base g v xs) : g < w.heap.size := by
  obtain ⟨cap, cur, fz, _, _, hg, _⟩ := h
  rcases Nat.lt_or_ge g w.heap.size with k | k
  · exact k
  · rw [Array.getElem?_eq_none k] at hg; cases hg
theorem Own.keep (h : Own e w base g v xs) (hk : w'.heap[g]? = w.heap[g]?) : Own e w' base g v xs := by
  obtain ⟨cap, cur, fz, h1, h2, h3, h4⟩ := h
  exact ⟨cap, cur, fz, h1, h2, hk.trans h3, h4⟩
theorem Own.alloc (h : Own e w base g v xs) (o : Obj) : Own e (w.alloc o) base g v xs := h.keep (Below.heap_alloc w o g h.lt)
theorem Own.drewN (h : Own e w base g v xs) (n : Nat) : Own e (w.drewN n) base g v xs := h.keep rfl
theorem Own.below {B : Nat} (h : Own e w base g v xs) (hb : Below B w w') (hg : g < B) : Own e w' base g v xs := h.keep (hb.block g hg)
theorem Own.mono {b : Nat} (h : Own e w base g v xs) (hb : b ≤ base) : Own e w b g v xs := by
  obtain ⟨cap, cur, fz, h1, h2, h3⟩ := h
  exact ⟨cap, cur, fz, h1, Nat.le_trans hb h2, h3⟩
theorem Own.cell (h : Own e w base g v xs) (j : Nat) (hj : j < xs.length) : w.cell? ⟨g, j, none⟩ = some xs[j] := by
  obtain ⟨cap, cur, fz, _, _, hg, _, _, _, _, ht⟩ := h
  have e1 : w.cell? ⟨g, j, none⟩ = cur[j]? := cell_of_block hg j
  rw [e1]
  have e2 : (cur.toList.take xs.length)[j]? = cur[j]? := by
    rw [List.getElem?_take, if_pos hj]
    simp
  rw [← e2, ht, List.getElem?_eq_getElem hj]
theorem Own.free (h : Own e w base g v xs) (j : Nat) (hj : j < xs.length) : w.frozen? ⟨g, j, none⟩ = false := by
  obtain ⟨cap, cur, fz, _, _, hg, hf, hn, _⟩ := h
  obtain ⟨lo, hi⟩ := fz
  simp only [World.frozen?, hg]
  simp only at hf
  rw [Bool.and_eq_false_iff]
  rcases hf with hf | hf
  · right; simp; omega
  · left; simp; omega
theorem Own.set (h : Own e w base g v xs) (j : Nat) (_hj : j < xs.length) (u : Value) : Own e (w.setCell ⟨g, j, none⟩ u) base g v (xs.set j u) := by
  obtain ⟨cap, cur, fz, h1, h2, hg, h4, h5, h6, h7, ht⟩ := h
  refine ⟨cap, cur.setIfInBounds j u, fz, ?_, h2, block_setCell (i := j) hg u, h4, ?_, h6, ?_, ?_⟩
  · rw [List.length_set]; exact h1
  · rw [List.length_set]; exact h5
  · simpa using h7
  · rw [List.length_set, Array.toList_setIfInBounds, List.take_set, ht]

theorem own_of_ownsRow {n : Nat} {b : Nat} (h : w.ownsRow b e 1 v n xs) (hn : 0 < n) : ∃ g, b ≤ g ∧ Own e w b g v xs := by
  obtain ⟨hl, hh⟩ := h
  have hl' : xs.length = n := by simpa using hl
  rcases hh with ⟨_, h0⟩ | ⟨g, cap, cur, hv, hb, hg, hnc, hcm, hcs, ht⟩
  · omega
  · refine ⟨g, hb, cap, cur, (0, 0), by rw [hl']; exact hv, hb, hg, .inl rfl, by omega, hcm, by simpa using hcs, ?_⟩
    rw [hl']; simpa using ht

/-- '[]byte(s)'. -/
theorem own_of_bytes (w : World) (e : TypeId) (s : ByteArray) (hs : s.size ≤ maxLen) (hb : base ≤ w.heap.size) :
    Own e (w.drew.alloc (.cells (bytesRow s (grownCap w s.size 0 e)) e ((bytesRow s (grownCap w s.size 0 e)).size, (bytesRow s (grownCap w s.size 0 e)).size + 1))) base w.heap.size (.slice (some ⟨w.heap.size, 0, none⟩) s.size (grownCap w s.size 0 e)) (s.data.toList.map fun b => .int .u8 b.toNat) := by
  have hl : (s.data.toList.map fun b => Value.int .u8 (b.toNat : Int)).length = s.size := by simp
  have hsz : (bytesRow s (grownCap w s.size 0 e)).size = grownCap w s.size 0 e := by
    have := grownCap_ge w s.size 0 e
    simp [bytesRow]
    omega
  refine ⟨grownCap w s.size 0 e, _, _, by rw [hl], hb, heap_alloc_new w.drew _, .inr (by rw [hsz]; exact Nat.le_refl _), by rw [hl]; exact grownCap_ge w s.size 0 e, grownCap_le_maxLen w s.size 0 e hs, hsz, ?_⟩
  rw [hl]
  unfold bytesRow
  rw [Array.toList_append, List.take_append_of_le_length (by simp)]
  rw [List.take_of_length_le (by simp)]
  simp

variable {P : Program}

theorem run_append1 (t ty : TypeId) (i : TypeInfo) (z : Value) (bytes : Nat) (ht : P.underlying t = some (.slice e)) (hi : P.info? e = some i) (hz : i.zero = some z) (hs1 : i.size = 1) (hby : i.bytes = bytes) (hzs : z.cells.size = 1)
    (h : Own e w base g v xs) (ad : Addr) (c : Nat) (x : Value) (hx : w.cell? ad = some x) (hspot : ad.spot = none) (h1 : x.oneCell' = true) (h63 : xs.length + 1 ≤ maxLen) (hbytes : (xs.length + 1) * bytes ≤ 140737488355328) :
    ∃ g' v' w', (Builtin.append_ #[t, t] ty #[v, .slice (some ad) 1 c]).run P w = .ok v' w' ∧ Own e w' base g' v' (xs ++ [x]) ∧ (g' = g ∨ w.heap.size ≤ g') ∧ w.grownBy w' (some g) := by
  have hlt := h.lt
  obtain ⟨cap, cur, fz, hv, hb, hg, hf, hn, hcm, hcs, htk⟩ := id h
  have hnews : ∀ (j : Nat) (u : Value), [x][j]? = some u → w.cell? (ad.add j) = some u := by
    intro j u hj
    match j, hj with
    | 0, hj =>
      simp at hj
      subst hj
      obtain ⟨ab, ao, asp⟩ := ad
      simp only at hspot
      subst hspot
      simpa [Addr.add] using hx
  subst hv
  by_cases hroom : xs.length + 1 ≤ cap
  · have hc : ∀ j, j < [x].length → (w.cell? ⟨g, 0 + xs.length * i.size + j, none⟩).isSome = true := by
      intro j hj
      have : j = 0 := by simpa using hj
      subst this
      rw [hs1, show 0 + xs.length * 1 + 0 = xs.length by omega, cell_of_block hg, Array.getElem?_eq_getElem (by omega)]
      rfl
    have hfz : ∀ j, j < [x].length → w.frozen? ⟨g, 0 + xs.length * i.size + j, none⟩ = false := by
      intro j hj
      have : j = 0 := by simpa using hj
      subst this
      rw [hs1, show 0 + xs.length * 1 + 0 = xs.length by omega]
      obtain ⟨lo, hi'⟩ := fz
      simp only [World.frozen?, hg]
      simp only at hf
      rw [Bool.and_eq_false_iff]
      rcases hf with hf | hf
      · right; simp; omega
      · left; simp; omega
    have hr := run_append_room_cells (P := P) w t ty e i ht hi g 0 xs.length cap ad 1 c [x] (by simp [hs1]) hnews (by simpa using h1) hroom hc hfz
    rw [hs1, show 0 + xs.length * 1 = xs.length by omega] at hr
    refine ⟨g, _, _, hr, ?_, .inl rfl, ?_⟩
    · show Own e (w.setCell ⟨g, xs.length, none⟩ x) base g _ _
      refine ⟨cap, cur.setIfInBounds xs.length x, fz, by simp, hb, block_setCell (i := xs.length) hg x, hf, by simpa using hroom, hcm, by simpa using hcs, ?_⟩
      rw [Array.toList_setIfInBounds]
      rw [List.length_append, List.length_singleton]
      have hlen : xs.length < cur.toList.length := by simp; omega
      rw [List.take_succ_eq_append_getElem (by simpa using hlen)]
      rw [List.take_set, List.getElem_set_self]
      rw [htk, List.set_eq_of_length_le (by omega)]
    · show w.grownBy (w.setCell ⟨g, xs.length, none⟩ x) (some g)
      refine ⟨rfl, rfl, rfl, by simp, fun k hk hne => ?_⟩
      exact Below.heap_setCell w _ _ k (by simpa using hne)
  · obtain ⟨v', w', hrun, r1, r2⟩ := run_append_arg_grows (P := P) w t ty e i z 1 bytes ht hi hz hs1 hby hzs (by decide) ⟨g, 0, none⟩ xs.length cap xs (by simp) (fun j u hj => by
      have hj' : j < xs.length := by
        rcases Nat.lt_or_ge j xs.length with k | k
        · exact k
        · rw [List.getElem?_eq_none k] at hj; cases hj
      rw [List.getElem?_eq_getElem hj'] at hj
      have := h.cell j hj'
      rw [Addr.add_lit, Nat.zero_add, this, hj]) ad 1 c [x] (by simp) hnews (by omega) h63 hbytes
    obtain ⟨g', hg', ho⟩ := own_of_ownsRow r1 (by omega)
    refine ⟨g', v', w', hrun, ho.mono ?_, .inr hg', ?_⟩
    · omega
    · obtain ⟨a1, a2, a3, a4, a5⟩ := r2
      exact ⟨a1, a2, a3, a4, fun k hk _ => a5 k hk (by simp)⟩

/-- 'append(v, x)', for the walk. -/
theorem wpList_append1 {ops : Array Oper} {rest : List Oper} {o : Oper} {a : Act} {Q : Exit → Act → World → Prop} (hgd : o.guard = none) (s y : Operand) (t : TypeId)
    (hop : o.op = .call { callee := .builtin .append, args := #[s, y], argTypes := #[t, t] })
    (i : TypeInfo) (z : Value) (bytes : Nat) (ht : P.underlying t = some (.slice e)) (hi : P.info? e = some i) (hz : i.zero = some z) (hs1 : i.size = 1) (hby : i.bytes = bytes) (hzs : z.cells.size = 1)
    (hs : a.eval s = v) (h : Own e w base g v xs) (ad : Addr) (c : Nat) (x : Value) (hy : a.eval y = .slice (some ad) 1 c) (hx : w.cell? ad = some x) (hspot : ad.spot = none) (h1 : x.oneCell' = true) (h63 : xs.length + 1 ≤ maxLen) (hbytes : (xs.length + 1) * bytes ≤ 140737488355328)
    (hK : ∀ g' v' w', Own e w' base g' v' (xs ++ [x]) → (g' = g ∨ w.heap.size ≤ g') → w.grownBy w' (some g) → wpList P ops Q rest (a.put o.dst v') w') : wpList P ops Q (o :: rest) a w := by
  refine wpList_plain hgd fun K hK' => ?_
  obtain ⟨g', v', w', hrun, r1, r2, r3⟩ := run_append1 (P := P) t o.type i z bytes ht hi hz hs1 hby hzs h ad c x hx hspot h1 h63 hbytes
  unfold Oper.wp
  simp [execOp, hop, resolve, invoke, builtin, hs, hy, hrun, Result.andThen]
  exact hK' _ _ (hK g' v' w' r1 r2 r3)

/-- 'string(v)', v bytes. -/
theorem own_string (zs : List Int) (src dst : TypeId) (hsrc : P.underlying src = some (.slice e)) (he : P.underlying e = some (.int .u8)) (hd : P.underlying dst = some .string) (h : Own e w base g v (zs.map (Value.int .u8))) :
    (convert src dst v).run P w = .ok (.string (strOfNums zs)) w := by
  obtain ⟨cap, hv⟩ := h.form
  subst hv
  refine run_convert_bytes_arg w src e hsrc he g 0 _ cap zs (by simp) (fun i hi => ?_) dst hd
  have hc := h.cell i (by simpa using hi)
  have hi' : i < zs.length := by simpa using hi
  rw [Nat.zero_add, hc]
  simp [hi']

end
end Go.Proofs.YtbcnlggkoidmmabGreatDoor

namespace Go.Proofs.YtbcnlggkoidmmabGreatDoor
open Go.RowKit Go.Joins

def fints (f : Nat → Int) (n : Nat) : List Value := (List.range n).map fun i => .int .i64 (f i)
/-- f with x at the place j. -/
def upd (f : Nat → Int) (j : Nat) (x : Int) : Nat → Int := fun i => if i = j then x else f i
theorem fints_length (f : Nat → Int) (n : Nat) : (fints f n).length = n := by simp [fints]
theorem fints_get (f : Nat → Int) (n j : Nat) (h : j < (fints f n).length) : (fints f n)[j] = .int .i64 (f j) := by simp [fints]
theorem fints_congr {f g : Nat → Int} {n : Nat} (h : ∀ i, i < n → f i = g i) : fints f n = fints g n := by
  unfold fints
  refine List.map_congr_left fun i hi => ?_
  rw [h i (List.mem_range.mp hi)]
theorem fints_set (f : Nat → Int) (n j : Nat) (x : Int) : (fints f n).set j (.int .i64 x) = fints (upd f j x) n := by
  refine List.ext_getElem (by simp [fints]) fun i h1 h2 => ?_
  rw [List.getElem_set, fints_get (upd f j x)]
  by_cases hij : j = i
  · subst hij
    rw [if_pos rfl]
    simp [upd]
  · have hji : ¬ i = j := fun h => hij h.symm
    rw [if_neg hij, fints_get]
    simp [upd, hji]
/-- The slice at the head of block g is the call's own and holds f 0, .., f (n - 1). -/
def IOwn (w : World) (base g n cap : Nat) (f : Nat → Int) : Prop := Own 3 w base g (.slice (some ⟨g, 0, none⟩) n cap) (fints f n)

section
variable {w w' : World} {base g n cap : Nat} {f : Nat → Int}
theorem IOwn.lt (h : IOwn w base g n cap f) : g < w.heap.size := Own.lt h
theorem IOwn.base_le (h : IOwn w base g n cap f) : base ≤ g := Own.base_le h
theorem IOwn.cell (h : IOwn w base g n cap f) (j : Nat) (hj : j < n) : w.cell? ⟨g, j, none⟩ = some (.int .i64 (f j)) := by
  have h' : j < (fints f n).length := by rw [fints_length]; exact hj
  rw [Own.cell h j h', fints_get]
theorem IOwn.free (h : IOwn w base g n cap f) (j : Nat) (hj : j < n) : w.frozen? ⟨g, j, none⟩ = false := Own.free h j (by rw [fints_length]; exact hj)
theorem IOwn.set (h : IOwn w base g n cap f) (j : Nat) (hj : j < n) (x : Int) : IOwn (w.setCell ⟨g, j, none⟩ (.int .i64 x)) base g n cap (upd f j x) := by
  have k := Own.set h j (by rw [fints_length]; exact hj) (.int .i64 x)
  rw [fints_set] at k
  exact k
theorem IOwn.congr {f' : Nat → Int} (h : IOwn w base g n cap f) (e : ∀ i, i < n → f i = f' i) : IOwn w base g n cap f' := by
  unfold IOwn at h ⊢
  rw [← fints_congr e]
  exact h
theorem IOwn.keep (h : IOwn w base g n cap f) (hk : w'.heap[g]? = w.heap[g]?) : IOwn w' base g n cap f := Own.keep h hk
theorem IOwn.alloc (h : IOwn w base g n cap f) (o : Obj) : IOwn (w.alloc o) base g n cap f := Own.alloc h o
theorem IOwn.drew (h : IOwn w base g n cap f) : IOwn w.drew base g n cap f := Own.drewN h 1
theorem IOwn.below {B : Nat} (h : IOwn w base g n cap f) (hb : Below B w w') (hg : g < B) : IOwn w' base g n cap f := Own.below h hb hg
/-- Behind a call that turned nothing old. -/
theorem IOwn.called (h : IOwn w base g n cap f) (hb : Below w.heap.size w w') : IOwn w' base g n cap f := Own.below h hb h.lt
theorem IOwn.mono {b : Nat} (h : IOwn w base g n cap f) (hb : b ≤ base) : IOwn w b g n cap f := Own.mono h hb
theorem IOwn.grown {row : Option Nat} (h : IOwn w base g n cap f) (hg : w.grownBy w' row) (hne : row ≠ some g) : IOwn w' base g n cap f := h.keep (hg.block g h.lt (Ne.symm hne))

theorem made_ints (n : Nat) : (madeCells #[Value.int .i64 0] n).toList = fints (fun _ => 0) n := by
  unfold madeCells fints
  rw [Array.toList_map, Array.toList_range]
  refine List.map_congr_left fun i _ => ?_
  simp [Nat.mod_one]

/-- 'make([]int, n)'. -/
theorem IOwn.made (w : World) (n : Nat) (hn : n ≤ maxLen) (hb : base ≤ w.heap.size) : IOwn (w.alloc (.cells (madeCells #[Value.int .i64 0] n) 3)) base w.heap.size n n (fun _ => 0) := by
  refine ⟨n, madeCells #[Value.int .i64 0] n, (0, 0), by rw [fints_length], hb, heap_alloc_new w _, .inl rfl, by rw [fints_length]; exact Nat.le_refl _, hn, by simp [madeCells], ?_⟩
  rw [made_ints, fints_length, List.take_of_length_le (by rw [fints_length]; exact Nat.le_refl _)]
end

/-- A slice of numbers that came in: it is empty, or its numbers lie from place 'off' of an old block on. -/
def Came (w : World) (a : Option Addr) (n : Nat) (f : Nat → Int) : Prop :=
  n = 0 ∨ ∃ g off, a = some ⟨g, off, none⟩ ∧ g < w.heap.size ∧ ∀ j, j < n → w.cell? ⟨g, off + j, none⟩ = some (.int .i64 (f j))
theorem Came.called {w w' : World} {a : Option Addr} {n : Nat} {f : Nat → Int} (h : Came w a n f) (hb : Below w.heap.size w w') : Came w' a n f := by
  rcases h with h | ⟨g, off, ha, hg, hc⟩
  · exact .inl h
  · exact .inr ⟨g, off, ha, Nat.lt_of_lt_of_le hg hb.size, fun j hj => (hb.cell (p := ⟨g, off + j, none⟩) hg).trans (hc j hj)⟩

/-- A slice that was handed back: it is empty, or the maker's own. -/
def SL (w : World) (base : Nat) (a : Option Addr) (n cap : Nat) (f : Nat → Int) : Prop := n = 0 ∨ ∃ g, a = some ⟨g, 0, none⟩ ∧ IOwn w base g n cap f
theorem SL.came {w : World} {base : Nat} {a : Option Addr} {n cap : Nat} {f : Nat → Int} (h : SL w base a n cap f) : Came w a n f := by
  rcases h with h | ⟨g, rfl, h⟩
  · exact .inl h
  · exact .inr ⟨g, 0, rfl, h.lt, fun j hj => by rw [Nat.zero_add]; exact h.cell j hj⟩
theorem SL.called {w w' : World} {base : Nat} {a : Option Addr} {n cap : Nat} {f : Nat → Int} (h : SL w base a n cap f) (hb : Below w.heap.size w w') : SL w' base a n cap f := by
  rcases h with h | ⟨g, rfl, h⟩
  · exact .inl h
  · exact .inr ⟨g, rfl, h.called hb⟩
theorem IOwn.sl {w : World} {base g n cap : Nat} {f : Nat → Int} (h : IOwn w base g n cap f) : SL w base (some ⟨g, 0, none⟩) n cap f := .inr ⟨g, rfl, h⟩
/-- An old slice behind what turned one new block. -/
theorem Came.grown {w w' : World} {a : Option Addr} {n B : Nat} {f : Nat → Int} {row : Option Nat} (h : Came w a n f) (hB : ∀ g off, a = some ⟨g, off, none⟩ → g < B) (hr : ∀ k, row = some k → B ≤ k) (hg : w.grownBy w' row) : Came w' a n f := by
  rcases h with h | ⟨g, off, ha, hlt, hc⟩
  · exact .inl h
  · refine .inr ⟨g, off, ha, Nat.lt_of_lt_of_le hlt hg.size, fun j hj => ?_⟩
    have hne : some g ≠ row := fun e => by have h1 := hB g off ha; have h2 := hr g e.symm; omega
    have hb := hg.block g hlt hne
    rw [← hc j hj]
    unfold World.cell?
    rw [hb]

end Go.Proofs.YtbcnlggkoidmmabGreatDoor

namespace Go.Proofs.YtbcnlggkoidmmabGreatDoor
namespace TokLenMath
open TokMath StepMath

/-- A token's symbol of the first code, and, of a token that repeats, of the second. -/
def sym1 (t : Tok) : Nat := if t.2.1 = 0 then t.1.toNat else (LengthCodeOf t.2.1).1.toNat
def sym2 (t : Tok) : Nat := (DistCodeOf t.2.2).1.toNat
/-- How often each symbol is met; the end of the block once. -/
def cntA (L : List Tok) (i : Nat) : Int := (if i = 256 then 1 else 0) + ((L.filter fun t => decide (sym1 t = i)).length : Int)
def cntB (L : List Tok) (i : Nat) : Int := ((L.filter fun t => decide (t.2.1 ≠ 0 ∧ sym2 t = i)).length : Int)
theorem cntA_snoc (L : List Tok) (t : Tok) (i : Nat) : upd (cntA L) (sym1 t) (cntA L (sym1 t) + 1) i = cntA (L ++ [t]) i := by
  unfold upd cntA
  rw [List.filter_append, List.length_append]
  by_cases h : i = sym1 t
  · subst h
    rw [if_pos rfl]
    simp
    omega
  · rw [if_neg h]
    have : ¬ sym1 t = i := fun e => h e.symm
    simp [this]
theorem cntB_snoc (L : List Tok) (t : Tok) (ht : t.2.1 ≠ 0) (i : Nat) : upd (cntB L) (sym2 t) (cntB L (sym2 t) + 1) i = cntB (L ++ [t]) i := by
  unfold upd cntB
  rw [List.filter_append, List.length_append]
  by_cases h : i = sym2 t
  · subst h
    rw [if_pos rfl]
    simp [ht]
  · rw [if_neg h]
    have : ¬ sym2 t = i := fun e => h e.symm
    simp [this]
theorem cntB_byte (L : List Tok) (t : Tok) (ht : t.2.1 = 0) (i : Nat) : cntB L i = cntB (L ++ [t]) i := by
  unfold cntB
  rw [List.filter_append, List.length_append]
  simp [ht]
theorem sym1_byte {x z : Int} : sym1 (x, 0, z) = x.toNat := if_pos rfl
theorem sym1_rep {x y z : Int} (h : y ≠ 0) : sym1 (x, y, z) = (LengthCodeOf y).1.toNat := if_neg h
theorem len_range {y : Int} (h : 3 ≤ y ∧ y ≤ 258) : 257 ≤ (LengthCodeOf y).1 ∧ (LengthCodeOf y).1 ≤ 285 := by
  unfold LengthCodeOf
  rw [if_pos h]
  unfold lenCode
  split
  · have := (len_fact (n := y.toNat) (by omega) (by omega)).1
    simp only []
    omega
  · simp only []
    omega
theorem dist_range {z : Int} (h : 1 ≤ z ∧ z ≤ 32768) : 0 ≤ (DistCodeOf z).1 ∧ (DistCodeOf z).1 ≤ 29 := by
  unfold DistCodeOf
  rw [if_pos h]
  unfold distCode
  have := (dist_fact (n := z.toNat) (by omega) (by omega)).1
  simp only []
  omega
theorem sym1_lt {t : Tok} (h : TokRight t) : sym1 t < 286 ∧ sym1 t ≠ 256 := by
  obtain ⟨x, y, z⟩ := t
  unfold TokRight at h
  by_cases e : y = 0
  · subst e
    rw [if_pos rfl] at h
    rw [sym1_byte]
    simp only [] at h
    omega
  · rw [if_neg e] at h
    rw [sym1_rep e]
    have := len_range (y := y) h.2.1
    omega
theorem cnt_le (L : List Tok) (p : Tok → Bool) : (L.filter p).length ≤ L.length := List.length_filter_le p L
/-- Counts that may be limited: each is at most the number of the tokens, but for the end of the block. -/
theorem cntA_le {L : List Tok} (h : ∀ t ∈ L, TokRight t) (hL : L.length ≤ 12000) (i : Nat) : 0 ≤ cntA L i ∧ cntA L i ≤ 12000 := by
  unfold cntA
  by_cases e : i = 256
  · have h0 : (L.filter fun t => decide (sym1 t = i)) = [] := List.filter_eq_nil_iff.mpr fun t ht => by
      have := (sym1_lt (h t ht)).2
      simp only [decide_eq_true_eq]
      omega
    rw [h0, if_pos e]
    simp
  · rw [if_neg e]
    have := cnt_le L (fun t => decide (sym1 t = i))
    omega
theorem cntB_le {L : List Tok} (hL : L.length ≤ 12000) (i : Nat) : 0 ≤ cntB L i ∧ cntB L i ≤ 12000 := by
  unfold cntB
  have := cnt_le L (fun t => decide (t.2.1 ≠ 0 ∧ sym2 t = i))
  omega
end TokLenMath
end Go.Proofs.YtbcnlggkoidmmabGreatDoor

namespace Go.Proofs.YtbcnlggkoidmmabGreatDoor
namespace TellMath
open TokMath StepMath

/-- A symbol, how many extra bits it has, and these. -/
abbrev Cod := Int × Int × Int
def symsT (t : Tok) : List (Bool × Cod) := if t.2.1 = 0 then [(false, (t.1, 0, 0))] else [(false, LengthCodeOf t.2.1), (true, DistCodeOf t.2.2)]
def symsL (L : List Tok) : List (Bool × Cod) := L.flatMap symsT
theorem symsT_byte (x z : Int) : symsT (x, 0, z) = [(false, (x, 0, 0))] := if_pos rfl
theorem symsT_rep (x : Int) {y : Int} (z : Int) (h : y ≠ 0) : symsT (x, y, z) = [(false, LengthCodeOf y), (true, DistCodeOf z)] := if_neg h
theorem symsL_snoc {L : List Tok} {j : Nat} (h : j < L.length) : symsL (L.take (j + 1)) = symsL (L.take j) ++ symsT (L.getD j (0, 0, 0)) := by
  unfold symsL
  rw [List.take_add_one, List.getElem?_eq_getElem h, List.flatMap_append, List.getD_eq_getElem?_getD, List.getElem?_eq_getElem h]
  simp
theorem symsT_length (t : Tok) : (symsT t).length ≤ 2 := by
  unfold symsT
  split <;> simp
theorem symsL_length : ∀ L : List Tok, (symsL L).length ≤ 2 * L.length
  | [] => Nat.le_refl _
  | t :: L => by
    have h1 := symsL_length L
    have h2 := symsT_length t
    show (symsT t ++ symsL L).length ≤ _
    rw [List.length_append, List.length_cons]
    omega
end TellMath
end Go.Proofs.YtbcnlggkoidmmabGreatDoor

namespace Go.Proofs.YtbcnlggkoidmmabGreatDoor
namespace PartMath
open OutMath PutMath BlockMath

/-- A part: its number, in how many bits, whether the highest one comes first. -/
abbrev Part := Int × Nat × Bool
def bitsP (p : Part) : List Int := pieceBits p.1 p.2.1 p.2.2
/-- The bits of parts, in order. -/
def partBits : List Part → List Int
  | [] => []
  | p :: l => bitsP p ++ partBits l
theorem partBits_app : ∀ a b : List Part, partBits (a ++ b) = partBits a ++ partBits b
  | [], _ => rfl
  | p :: l, b => by
    show bitsP p ++ partBits (l ++ b) = (bitsP p ++ partBits l) ++ partBits b
    rw [partBits_app l b, List.append_assoc]
theorem bits01_nil : Bits01 [] := fun i => by simp
theorem partBits_01 : ∀ l : List Part, Bits01 (partBits l)
  | [] => bits01_nil
  | _ :: l => (pieceBits_01 _ _ _).append (partBits_01 l)
theorem bitsP_length (p : Part) : (bitsP p).length = p.2.1 := pieceBits_length _ _ _
/-- A part that can be put. -/
def Right (p : Part) : Prop := 0 ≤ p.1 ∧ p.1 ≤ 16777216 ∧ p.2.1 ≤ 24
theorem partBits_take {l : List Part} {j : Nat} (h : j < l.length) : partBits (l.take (j + 1)) = partBits (l.take j) ++ bitsP (l.getD j (0, 0, false)) := by
  rw [List.take_add_one, List.getElem?_eq_getElem h, partBits_app, List.getD_eq_getElem?_getD, List.getElem?_eq_getElem h]
  show _ ++ (bitsP _ ++ []) = _
  rw [List.append_nil]
  rfl
/-- The first parts have no more bits than all. -/
theorem partBits_take_le : ∀ (l : List Part) (j : Nat), (partBits (l.take j)).length ≤ (partBits l).length
  | [], _ => by simp
  | _ :: _, 0 => Nat.zero_le _
  | p :: l, j + 1 => by
    show (bitsP p ++ partBits (l.take j)).length ≤ (bitsP p ++ partBits l).length
    have := partBits_take_le l j
    rw [List.length_append, List.length_append]
    omega
theorem putB_nil (xs : List Int) (c : Nat) : putB xs c [] = xs := rfl
/-- A part of no bits tells nothing. -/
theorem bitsP_none (x : Int) (h : Bool) : bitsP (x, 0, h) = [] := rfl
end PartMath
end Go.Proofs.YtbcnlggkoidmmabGreatDoor
