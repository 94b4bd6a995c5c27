/-
  Slices of tokens that a call hands back, and the walks of the laws' marks on them.
  A list's length when what is 0 at its end is left out; tokens that are all right. Nothing here speaks of the program.
  Lengths and distances by their symbols, in plain numbers: steps that grow. Nothing here speaks of the program.
-/
import Derived.Test.YtbcnlggkoidmmaaRows
import Derived.Test.YtbcnlggkoidmmaaPk01
import Derived.WalkKit
import Derived.ProofKit
import Derived.WalkLawsBesides
import Derived.Below
import Derived.Lib.SmallJoins
namespace Go.Proofs.Ytbcnlggkoidmmaa
open Go.RowKit Go.Joins TokMath

theorem TCame.grown {w w' : World} {a : Option Addr} {n B : Nat} {F : Nat → Tok} {row : Option Nat} (h : TCame w a n F) (hB : ∀ g off, a = some ⟨g, off, none⟩ → g < B) (hr : ∀ k, row = some k → B ≤ k) (hg : w.grownBy w' row) : TCame w' a n F := by
  rcases h with h | ⟨g, off, ha, hlt, hc⟩
  · exact .inl h
  · have hne : some g ≠ row := fun e => by have h1 := hB g off ha; have h2 := hr g e.symm; omega
    have hb := hg.block g hlt hne
    exact .inr ⟨g, off, ha, Nat.lt_of_lt_of_le hlt hg.size, fun j hj => ⟨(World.cell?_of_block (w := w) hb).trans (hc j hj).1, (World.cell?_of_block (w := w) hb).trans (hc j hj).2.1, (World.cell?_of_block (w := w) hb).trans (hc j hj).2.2⟩⟩
theorem TOwn.free {w : World} {base g n : Nat} {F : Nat → Tok} (h : TOwn w base g n F) (k : Nat) : w.frozen? ⟨g, k, none⟩ = false := by
  obtain ⟨_, cur, h2, _⟩ := h
  simp [World.frozen?, h2]
/-- F with t at the place j. -/
def updT (F : Nat → Tok) (j : Nat) (t : Tok) : Nat → Tok := fun i => if i = j then t else F i
theorem TOwn.set {w : World} {base g n : Nat} {F : Nat → Tok} (h : TOwn w base g n F) (j : Nat) (hj : j < n) (x y z : Int) : TOwn (((w.setCell ⟨g, j * 3, none⟩ (.int .i64 x)).setCell ⟨g, j * 3 + 1, none⟩ (.int .i64 y)).setCell ⟨g, j * 3 + 2, none⟩ (.int .i64 z)) base g n (updT F j (x, y, z)) := by
  obtain ⟨h1, cur, h2, h3, h4⟩ := h
  refine ⟨h1, ((cur.setIfInBounds (j * 3) (.int .i64 x)).setIfInBounds (j * 3 + 1) (.int .i64 y)).setIfInBounds (j * 3 + 2) (.int .i64 z), ?_, by simpa using h3, fun i hi => ?_⟩
  · simp [World.setCell, Array.getElem?_modify, h2]
  · obtain ⟨k1, k2, k3⟩ := h4 i hi
    unfold updT
    by_cases e : i = j
    · subst e
      rw [if_pos rfl]
      refine ⟨?_, ?_, ?_⟩
      · rw [Array.getElem?_setIfInBounds_ne (by omega), Array.getElem?_setIfInBounds_ne (by omega), Array.getElem?_setIfInBounds_self_of_lt (by omega)]
      · rw [Array.getElem?_setIfInBounds_ne (by omega), Array.getElem?_setIfInBounds_self_of_lt (by simp; omega)]
      · rw [Array.getElem?_setIfInBounds_self_of_lt (by simp; omega)]
    · rw [if_neg e]
      refine ⟨?_, ?_, ?_⟩
      · rw [Array.getElem?_setIfInBounds_ne (by omega), Array.getElem?_setIfInBounds_ne (by omega), Array.getElem?_setIfInBounds_ne (by omega)]; exact k1
      · rw [Array.getElem?_setIfInBounds_ne (by omega), Array.getElem?_setIfInBounds_ne (by omega), Array.getElem?_setIfInBounds_ne (by omega)]; exact k2
      · rw [Array.getElem?_setIfInBounds_ne (by omega), Array.getElem?_setIfInBounds_ne (by omega), Array.getElem?_setIfInBounds_ne (by omega)]; exact k3
theorem TOwn.congr {w : World} {base g n : Nat} {F G : Nat → Tok} (h : TOwn w base g n F) (e : ∀ j, j < n → F j = G j) : TOwn w base g n G := by
  obtain ⟨h1, cur, h2, h3, h4⟩ := h
  exact ⟨h1, cur, h2, h3, fun j hj => by rw [← e j hj]; exact h4 j hj⟩
theorem TOwn.grown {w w' : World} {base g n : Nat} {F : Nat → Tok} {row : Option Nat} (h : TOwn w base g n F) (hg : w.grownBy w' row) (hne : row ≠ some g) : TOwn w' base g n F := h.keep (hg.block g h.lt (Ne.symm hne))
/-- A slice that was handed back. -/
def TSL (w : World) (base : Nat) (a : Option Addr) (n : Nat) (F : Nat → Tok) : Prop := n = 0 ∨ ∃ g, a = some ⟨g, 0, none⟩ ∧ TOwn w base g n F
theorem TSL.came {w : World} {base : Nat} {a : Option Addr} {n : Nat} {F : Nat → Tok} (h : TSL w base a n F) : TCame w a n F := by
  rcases h with h | ⟨g, rfl, h⟩
  · exact .inl h
  · exact h.came
theorem TSL.called {w w' : World} {base : Nat} {a : Option Addr} {n : Nat} {F : Nat → Tok} (h : TSL w base a n F) (hb : Below w.heap.size w w') : TSL w' base a n F := by
  rcases h with h | ⟨g, rfl, h⟩
  · exact .inl h
  · exact .inr ⟨g, rfl, h.called hb⟩
/-- What a call owns, by its places. -/
theorem tsl_of_own {w : World} {S n : Nat} {v : Value} {L : List Tok} (h : w.ownsRow S 47 3 v n (tcells L)) (hn : n = L.length) : ∃ a c, v = .slice a L.length c ∧ L.length ≤ c ∧ TSL w S a L.length (fun j => L.getD j (0, 0, 0)) := by
  subst hn
  rcases h.2 with ⟨rfl, h0⟩ | ⟨g, cap, cur, rfl, hb, hg, hc, hm, hs, ht⟩
  · exact ⟨none, 0, by rw [h0], by omega, .inl h0⟩
  · refine ⟨_, cap, rfl, hc, .inr ⟨g, rfl, hb, cur, hg, by omega, fun j hj => ?_⟩⟩
    have q := tcells_get L j hj
    have k1 := h.cellAt (j * 3) (by omega)
    have k2 := h.cellAt (j * 3 + 1) (by omega)
    have k3 := h.cellAt (j * 3 + 2) (by omega)
    rw [cell_of_block hg] at k1 k2 k3
    rw [k1, k2, k3]
    exact q

/-- What stands there behind the mark. -/
def markedT (k : Int) (j : Nat) : Tok := (k + 3 * j, k + 3 * j + 1, k + 3 * j + 2)
/-- What the ring of the mark has at hand. -/
def TMarkSt (w w' : World) (base g n : Nat) (F : Nat → Tok) (k : Int) (j : Nat) : Prop := TOwn w' base g n (fun i => if i < j then markedT k i else F i) ∧ w.grownBy w' (some g)
theorem tmark_next {w w' : World} {base g n : Nat} {F : Nat → Tok} {k : Int} {j : Nat} (h : TMarkSt w w' base g n F k j) (hj : j < n) : TMarkSt w (((w'.setCell ⟨g, j * 3, none⟩ (.int .i64 (k + 3 * j))).setCell ⟨g, j * 3 + 1, none⟩ (.int .i64 (k + 3 * j + 1))).setCell ⟨g, j * 3 + 2, none⟩ (.int .i64 (k + 3 * j + 1 + 1))) base g n F k (j + 1) := by
  obtain ⟨h1, h2⟩ := h
  refine ⟨(h1.set j hj _ _ _).congr (fun i _ => ?_), ⟨h2.os, h2.tape, h2.output, by simpa using h2.size, fun b hb hne => ?_⟩⟩
  · unfold updT
    by_cases e : i = j
    · rw [if_pos e, if_pos (by omega), e]
      show (k + 3 * (j : Int), k + 3 * (j : Int) + 1, k + 3 * (j : Int) + 1 + 1) = (k + 3 * (j : Int), k + 3 * (j : Int) + 1, k + 3 * (j : Int) + 2)
      rw [show k + 3 * (j : Int) + 1 + 1 = k + 3 * (j : Int) + 2 by omega]
    · rw [if_neg e]
      show (if i < j then markedT k i else F i) = _
      by_cases q : i < j
      · rw [if_pos q, if_pos (by omega)]
      · rw [if_neg q, if_neg (by omega)]
  · have hbg : b ≠ g := fun e => hne (by rw [e])
    rw [Below.heap_setCell _ _ _ _ hbg, Below.heap_setCell _ _ _ _ hbg, Below.heap_setCell _ _ _ _ hbg]
    exact h2.block b hb hne

set_option maxHeartbeats 800000 in
theorem markTokenS_own (base g n c : Nat) (F : Nat → Tok) (k : Int) (w : World) (ha : TOwn w base g n F) (hn : n ≤ 1048576) (h0 : 0 ≤ k) (h1 : k ≤ 10000000) :
    Calls Try.prog 12 #[.slice (some ⟨g, 0, none⟩) n c, .int .i64 k] w fun e w' => e = .returned (.int .i64 (k + 3 * n)) ∧ TOwn w' base g n (markedT k) ∧ w.grownBy w' (some g) := by
  have H0 : Hid (TMarkSt w w base g n F k 0) := ⟨ha.congr (fun i _ => by rw [if_neg (Nat.not_lt_zero i)]), ⟨rfl, rfl, rfl, Nat.le_refl _, fun _ _ _ => rfl⟩⟩
  clear ha
  go_enter Try.func12, Try.ntmps12
  go_wp2_with fail
  go_loopw [1, 5] (fun z i w' => ∃ (j : Nat), j ≤ n ∧ i = .int .i64 j ∧ z = .int .i64 (k + 3 * j) ∧ Hid (TMarkSt w w' base g n F k j)) (fun _ i _ => n - (intOf i).toNat)
  case atStart => exact ⟨0, Nat.zero_le _, rfl, by simp, H0⟩
  case round =>
    clear H0
    obtain ⟨j, hj, rfl, rfl, hS⟩ := hrel
    by_cases hlt : j < n
    · rcases hS.out.1.came with q | ⟨g', off, e, hg, hc⟩
      · omega
      · cases e
        obtain ⟨c0, c1, c2⟩ := hc j hlt
        rw [Nat.zero_add] at c0 c1 c2
        have fz := hS.out.1.free
        have HS1 := hid_of (tmark_next hS.out hlt)
        generalize (if j < j then markedT k j else F j) = x at c0 c1 c2
        clear hc
        go_wp2_with fail
        go_roundw
        case rel => exact ⟨j + 1, by omega, by go_num, by first | go_num | (congr 1; omega), HS1⟩
        case measure => simp [intOf]; omega
    · obtain rfl : j = n := by omega
      have HZ : Hid (TOwn wr base g j (markedT k) ∧ w.grownBy wr (some g)) := ⟨hS.out.1.congr (fun i hi => by rw [if_pos hi]), hS.out.2⟩
      go_wp2_with fail
      go_ret
      exact ⟨rfl, HZ.out⟩

theorem markTokenS_none (a : Option Addr) (c : Nat) (k : Int) (w : World) : Calls Try.prog 12 #[.slice a 0 c, .int .i64 k] w fun e w' => e = .returned (.int .i64 k) ∧ w' = w := by
  go_enter Try.func12, Try.ntmps12
  go_wp2_with fail
  go_loop [1, 5] (fun z i => i = .int .i64 0 ∧ z = .int .i64 k) (fun _ _ => 0)
  case atStart => exact ⟨rfl, rfl⟩
  case round =>
    obtain ⟨rfl, rfl⟩ := hrel
    go_wp2_with fail
    go_ret
    exact ⟨rfl, rfl⟩
theorem markTokenS_sl (base : Nat) (a : Option Addr) (n c : Nat) (F : Nat → Tok) (k : Int) (w : World) (hS : TSL w base a n F) (hn : n ≤ 1048576) (h0 : 0 ≤ k) (h1 : k ≤ 10000000) :
    Calls Try.prog 12 #[.slice a n c, .int .i64 k] w fun e w' => e = .returned (.int .i64 (k + 3 * n)) ∧ TSL w' base a n (markedT k) ∧ ∃ row, (∀ g, row = some g → base ≤ g) ∧ w.grownBy w' row := by
  rcases hS with rfl | ⟨g, rfl, h⟩
  · refine (markTokenS_none a c k w).mono ?_
    rintro e w1 ⟨rfl, rfl⟩
    exact ⟨by simp, .inl rfl, none, (fun g hg => by cases hg), ⟨rfl, rfl, rfl, Nat.le_refl _, fun _ _ _ => rfl⟩⟩
  · refine (markTokenS_own base g n c F k w h hn h0 h1).mono ?_
    rintro e w1 ⟨rfl, hO, hg⟩
    exact ⟨rfl, .inr ⟨g, rfl, hO⟩, some g, (fun g' hg' => by cases hg'; exact h.1), hg⟩

/-- All that was there; the model's list; the program's list. -/
def TokKeep (W w : World) (B : Nat) (am a : Option Addr) (m : Nat) (F h : Nat → Tok) : Prop :=
  Below W.heap.size W w ∧ TCame w am m F ∧ (∀ g off, am = some ⟨g, off, none⟩ → g < B) ∧ B ≤ w.heap.size ∧ W.heap.size ≤ B ∧ TSL w B a m h
theorem TokKeep.next {W w w' : World} {B : Nat} {am a : Option Addr} {m : Nat} {F h : Nat → Tok} (k : TokKeep W w B am a m F h) (hb : Below w.heap.size w w') : TokKeep W w' B am a m F h := by
  obtain ⟨k1, k2, k3, k4, k5, k6⟩ := k
  exact ⟨bnext k1 hb, k2.called hb, k3, Nat.le_trans k4 hb.size, k5, k6.called hb⟩

end Go.Proofs.Ytbcnlggkoidmmaa

namespace Go.Proofs.Ytbcnlggkoidmmaa
namespace TrimMath
open TokMath

/-- What is left when what is 0 at the end is left out, but the first least ones. -/
def trimN (f : Nat → Int) (least : Nat) : Nat → Nat
  | 0 => 0
  | n + 1 => if least < n + 1 ∧ f n = 0 then trimN f least n else n + 1
theorem trimN_zero {f : Nat → Int} {least n : Nat} (h : least < n + 1) (h0 : f n = 0) : trimN f least (n + 1) = trimN f least n := if_pos ⟨h, h0⟩
theorem trimN_keep {f : Nat → Int} {least n : Nat} (h0 : f n ≠ 0) : trimN f least (n + 1) = n + 1 := if_neg fun h => h0 h.2
theorem trimN_least {f : Nat → Int} {least : Nat} : ∀ {n : Nat}, n ≤ least → trimN f least n = n
  | 0, _ => rfl
  | _ + 1, h => if_neg fun q => by omega
theorem trimN_le (f : Nat → Int) (least : Nat) : ∀ n, trimN f least n ≤ n
  | 0 => Nat.le_refl _
  | n + 1 => by
    unfold trimN
    split
    · have := trimN_le f least n
      omega
    · exact Nat.le_refl _
theorem trimN_ge (f : Nat → Int) (least : Nat) : ∀ n, least ≤ n → least ≤ trimN f least n
  | 0, h => h
  | n + 1, h => by
    unfold trimN
    split
    · exact trimN_ge f least n (by omega)
    · exact h
/-- What is left out is 0. -/
theorem trimN_out (f : Nat → Int) (least : Nat) : ∀ n i, trimN f least n ≤ i → i < n → f i = 0
  | 0, i, _, h => by omega
  | n + 1, i, h1, h2 => by
    unfold trimN at h1
    split at h1
    · rename_i q
      by_cases e : i = n
      · rw [e]; exact q.2
      · exact trimN_out f least n i h1 (by omega)
    · omega

/-- Tokens that are all right, and not too many. -/
def TokensRight (L : List Tok) : Prop := L.length ≤ 12000 ∧ ∀ t ∈ L, TokRight t
instance (L : List Tok) : Decidable (TokensRight L) := by unfold TokensRight; exact inferInstance
end TrimMath
end Go.Proofs.Ytbcnlggkoidmmaa

namespace Go.Proofs.Ytbcnlggkoidmmaa.StepMath

/-- How many extra bits the step j has, where each k steps have one more. -/
def bitsN (k j : Nat) : Nat := (j - k) / k
/-- The least number of the step j. -/
def fromN (c k : Nat) : Nat → Nat
  | 0 => c
  | j + 1 => fromN c k j + 2 ^ bitsN k j
/-- The last step below m that begins at n or ahead of it. -/
def findN (c k n : Nat) : Nat → Nat
  | 0 => 0
  | m + 1 => if fromN c k m ≤ n then m else findN c k n m
theorem pow_pos2 (j : Nat) : 1 ≤ 2 ^ j := Nat.one_le_two_pow
theorem from_lt (c k j : Nat) : fromN c k j < fromN c k (j + 1) := by
  have := pow_pos2 (bitsN k j)
  show fromN c k j < fromN c k j + 2 ^ bitsN k j
  omega
theorem from_mono (c k : Nat) : ∀ d i, fromN c k i ≤ fromN c k (i + d)
  | 0, _ => Nat.le_refl _
  | d + 1, i => Nat.le_trans (from_mono c k d i) (Nat.le_of_lt (from_lt c k (i + d)))
theorem from_le {c k i j : Nat} (h : i ≤ j) : fromN c k i ≤ fromN c k j := by
  obtain ⟨d, rfl⟩ := Nat.exists_eq_add_of_le h
  exact from_mono c k d i
theorem find_spec {c k n : Nat} (hc : c ≤ n) : ∀ m, 0 < m → findN c k n m < m ∧ fromN c k (findN c k n m) ≤ n ∧ ∀ j, findN c k n m < j → j < m → n < fromN c k j
  | 0, h => by omega
  | m + 1, _ => by
    unfold findN
    split
    · rename_i h
      exact ⟨by omega, h, fun j h1 h2 => by omega⟩
    · rename_i h
      rcases Nat.eq_zero_or_pos m with h0 | h0
      · subst h0
        exact absurd hc h
      · obtain ⟨q1, q2, q3⟩ := find_spec (c := c) (k := k) hc m h0
        refine ⟨by omega, q2, fun j h1 h2 => ?_⟩
        rcases Nat.lt_or_ge j m with h3 | h3
        · exact q3 j h1 h3
        · have : j = m := by omega
          subst this
          omega
/-- The step is told by its ends. -/
theorem find_told {c k n m j : Nat} (h1 : fromN c k j ≤ n) (h2 : n < fromN c k (j + 1)) (hj : j < m) (hc : c ≤ n) : findN c k n m = j := by
  obtain ⟨q1, q2, q3⟩ := find_spec (c := c) (k := k) hc m (by omega)
  rcases Nat.lt_trichotomy (findN c k n m) j with h | h | h
  · have := q3 j h hj
    omega
  · exact h
  · have := from_le (c := c) (k := k) (show j + 1 ≤ findN c k n m from h)
    omega
theorem find_in {c k n m : Nat} (hc : c ≤ n) (hm : n < fromN c k m) : findN c k n m < m ∧ fromN c k (findN c k n m) ≤ n ∧ n < fromN c k (findN c k n m + 1) := by
  have h0 : 0 < m := by
    rcases Nat.eq_zero_or_pos m with h | h
    · subst h
      have : n < c := hm
      omega
    · exact h
  obtain ⟨q1, q2, q3⟩ := find_spec (c := c) (k := k) hc m h0
  refine ⟨q1, q2, ?_⟩
  rcases Nat.lt_or_ge (findN c k n m + 1) m with h | h
  · exact q3 _ (Nat.lt_succ_self _) h
  · have : findN c k n m + 1 = m := by omega
    rw [this]
    exact hm
theorem find_extra {c k n m : Nat} (hc : c ≤ n) (hm : n < fromN c k m) : n - fromN c k (findN c k n m) < 2 ^ bitsN k (findN c k n m) := by
  obtain ⟨_, h1, h2⟩ := find_in hc hm
  have : fromN c k (findN c k n m + 1) = fromN c k (findN c k n m) + 2 ^ bitsN k (findN c k n m) := rfl
  omega
/-- The steps rise by one at most. -/
theorem find_next {c k n m : Nat} (hc : c ≤ n) (hm : n + 1 < fromN c k m) : findN c k (n + 1) m = findN c k n m ∨ findN c k (n + 1) m = findN c k n m + 1 := by
  obtain ⟨h0, h1, h2⟩ := find_in (k := k) (m := m) hc (by omega)
  rcases Nat.lt_or_ge (n + 1) (fromN c k (findN c k n m + 1)) with h | h
  · exact .inl (find_told (by omega) h h0 (by omega))
  · right
    have h3 : n + 1 < fromN c k (findN c k n m + 1 + 1) := by
      have := from_lt c k (findN c k n m + 1)
      omega
    have h4 : findN c k n m + 1 < m := by
      rcases Nat.lt_or_ge (findN c k n m + 1) m with q | q
      · exact q
      · have := from_le (c := c) (k := k) q
        omega
    exact find_told h h3 h4 (by omega)
theorem find_step (c k n m : Nat) : findN c k n (m + 1) = if fromN c k m ≤ n then m else findN c k n m := rfl

/-! Lengths: steps of 4 from 3 on; the 28th would begin at 259. Distances: steps of 2 from 1 on; the 30th would begin at 32769. -/
theorem len_8 : fromN 3 4 8 = 11 := by decide
theorem len_28 : fromN 3 4 28 = 259 := by decide
theorem dist_4 : fromN 1 2 4 = 5 := by decide
theorem dist_30 : fromN 1 2 30 = 32769 := by decide
theorem len_small : ∀ j, j ≤ 8 → fromN 3 4 j = 3 + j ∧ bitsN 4 j ≤ 1 := by decide
theorem dist_small : ∀ j, j ≤ 4 → fromN 1 2 j = 1 + j ∧ bitsN 2 j ≤ 1 := by decide
theorem len_bits : ∀ j, j < 28 → bitsN 4 j ≤ 5 ∧ (j < 8 → bitsN 4 j = 0) := by decide
theorem dist_bits : ∀ j, j < 30 → bitsN 2 j ≤ 13 ∧ (j < 4 → bitsN 2 j = 0) := by decide
theorem len_257 : findN 3 4 257 28 = 27 := by decide

/-- The symbol of a length, its extra bits, and what they are. -/
def lenCode (n : Nat) : Nat × Nat × Nat := if n < 258 then (257 + findN 3 4 n 28, bitsN 4 (findN 3 4 n 28), n - fromN 3 4 (findN 3 4 n 28)) else (285, 0, 0)
/-- Of a symbol its extra bits and the least length. -/
def lenBits (s : Nat) : Nat × Nat := if s = 285 then (0, 258) else (bitsN 4 (s - 257), fromN 3 4 (s - 257))
def distCode (n : Nat) : Nat × Nat × Nat := (findN 1 2 n 30, bitsN 2 (findN 1 2 n 30), n - fromN 1 2 (findN 1 2 n 30))
def distBits (s : Nat) : Nat × Nat := (bitsN 2 s, fromN 1 2 s)
/-- What the functions answer, at every number. -/
def LengthCodeOf (n : Int) : Int × Int × Int := if 3 ≤ n ∧ n ≤ 258 then (((lenCode n.toNat).1 : Int), ((lenCode n.toNat).2.1 : Int), ((lenCode n.toNat).2.2 : Int)) else (0, 0, 0)
def DistCodeOf (n : Int) : Int × Int × Int := if 1 ≤ n ∧ n ≤ 32768 then (((distCode n.toNat).1 : Int), ((distCode n.toNat).2.1 : Int), ((distCode n.toNat).2.2 : Int)) else (0, 0, 0)
def LengthOfR (s x : Int) : Int × Bool := if (257 ≤ s ∧ s ≤ 285) ∧ 0 ≤ x ∧ x < 2 ^ (lenBits s.toNat).1 then (((lenBits s.toNat).2 : Int) + x, true) else (0, false)
def DistOfR (s x : Int) : Int × Bool := if (0 ≤ s ∧ s ≤ 29) ∧ 0 ≤ x ∧ x < 2 ^ (distBits s.toNat).1 then (((distBits s.toNat).2 : Int) + x, true) else (0, false)

theorem len_fact {n : Nat} (h3 : 3 ≤ n) (h : n < 258) : findN 3 4 n 28 < 28 ∧ fromN 3 4 (findN 3 4 n 28) ≤ n ∧ n - fromN 3 4 (findN 3 4 n 28) < 2 ^ bitsN 4 (findN 3 4 n 28) := by
  have h1 := len_28
  have h2 := find_in (c := 3) (k := 4) (n := n) (m := 28) h3 (by omega)
  exact ⟨h2.1, h2.2.1, find_extra h3 (by omega)⟩
theorem dist_fact {n : Nat} (h1 : 1 ≤ n) (h : n ≤ 32768) : findN 1 2 n 30 < 30 ∧ fromN 1 2 (findN 1 2 n 30) ≤ n ∧ n - fromN 1 2 (findN 1 2 n 30) < 2 ^ bitsN 2 (findN 1 2 n 30) := by
  have h2 := dist_30
  have h3 := find_in (c := 1) (k := 2) (n := n) (m := 30) h1 (by omega)
  exact ⟨h3.1, h3.2.1, find_extra h1 (by omega)⟩
theorem pow_cast (m : Nat) : ((2 ^ m : Nat) : Int) = (2 : Int) ^ m := by
  induction m with
  | zero => rfl
  | succ m ih => rw [Nat.pow_succ, Int.pow_succ, Int.natCast_mul, ih]; rfl

/-- Each length comes back from its symbol and extra bits. -/
theorem len_back {n : Int} (h3 : 3 ≤ n) (h : n ≤ 258) : LengthOfR (LengthCodeOf n).1 (LengthCodeOf n).2.2 = (n, true) ∧ 0 ≤ (LengthCodeOf n).2.2 ∧ (LengthCodeOf n).2.2 < 2 ^ (LengthCodeOf n).2.1.toNat ∧ 257 ≤ (LengthCodeOf n).1 ∧ (LengthCodeOf n).1 ≤ 285 ∧ 0 ≤ (LengthCodeOf n).2.1 ∧ (LengthCodeOf n).2.1 ≤ 5 := by
  obtain ⟨m, rfl⟩ := Int.eq_ofNat_of_zero_le (show 0 ≤ n by omega)
  unfold LengthCodeOf
  rw [if_pos ⟨h3, h⟩, Int.toNat_natCast]
  unfold lenCode
  split
  · rename_i hlt
    obtain ⟨f1, f2, f3⟩ := len_fact (show 3 ≤ m by omega) hlt
    have f4 := len_bits _ f1
    have f5 := pow_cast (bitsN 4 (findN 3 4 m 28))
    have e1 : ((257 + findN 3 4 m 28 : Nat) : Int).toNat = 257 + findN 3 4 m 28 := Int.toNat_natCast _
    have e2 : lenBits (257 + findN 3 4 m 28) = (bitsN 4 (findN 3 4 m 28), fromN 3 4 (findN 3 4 m 28)) := by
      unfold lenBits
      rw [if_neg (by omega), Nat.add_sub_cancel_left]
    refine ⟨?_, ?_, ?_, ?_, ?_, ?_, ?_⟩
    · show LengthOfR ((257 + findN 3 4 m 28 : Nat) : Int) ((m - fromN 3 4 (findN 3 4 m 28) : Nat) : Int) = _
      unfold LengthOfR
      rw [e1, e2, if_pos ⟨by omega, by omega, by show ((m - fromN 3 4 (findN 3 4 m 28) : Nat) : Int) < 2 ^ bitsN 4 (findN 3 4 m 28); omega⟩]
      show (((fromN 3 4 (findN 3 4 m 28) : Nat) : Int) + ((m - fromN 3 4 (findN 3 4 m 28) : Nat) : Int), true) = _
      congr 1
      omega
    · show (0 : Int) ≤ ((m - fromN 3 4 (findN 3 4 m 28) : Nat) : Int)
      omega
    · show ((m - fromN 3 4 (findN 3 4 m 28) : Nat) : Int) < 2 ^ ((bitsN 4 (findN 3 4 m 28) : Nat) : Int).toNat
      rw [Int.toNat_natCast]
      omega
    · show (257 : Int) ≤ ((257 + findN 3 4 m 28 : Nat) : Int)
      omega
    · show ((257 + findN 3 4 m 28 : Nat) : Int) ≤ 285
      omega
    · show (0 : Int) ≤ ((bitsN 4 (findN 3 4 m 28) : Nat) : Int)
      omega
    · show ((bitsN 4 (findN 3 4 m 28) : Nat) : Int) ≤ 5
      omega
  · rename_i hlt
    obtain rfl : m = 258 := by omega
    refine ⟨by decide, by decide, by decide, by decide, by decide, by decide, by decide⟩
theorem dist_back {n : Int} (h1 : 1 ≤ n) (h : n ≤ 32768) : DistOfR (DistCodeOf n).1 (DistCodeOf n).2.2 = (n, true) ∧ 0 ≤ (DistCodeOf n).2.2 ∧ (DistCodeOf n).2.2 < 2 ^ (DistCodeOf n).2.1.toNat ∧ 0 ≤ (DistCodeOf n).1 ∧ (DistCodeOf n).1 ≤ 29 ∧ 0 ≤ (DistCodeOf n).2.1 ∧ (DistCodeOf n).2.1 ≤ 13 := by
  obtain ⟨m, rfl⟩ := Int.eq_ofNat_of_zero_le (show 0 ≤ n by omega)
  unfold DistCodeOf
  rw [if_pos ⟨h1, h⟩, Int.toNat_natCast]
  unfold distCode
  obtain ⟨f1, f2, f3⟩ := dist_fact (show 1 ≤ m by omega) (show m ≤ 32768 by omega)
  have f4 := dist_bits _ f1
  have f5 := pow_cast (bitsN 2 (findN 1 2 m 30))
  refine ⟨?_, ?_, ?_, ?_, ?_, ?_, ?_⟩
  · show DistOfR ((findN 1 2 m 30 : Nat) : Int) ((m - fromN 1 2 (findN 1 2 m 30) : Nat) : Int) = _
    unfold DistOfR
    rw [Int.toNat_natCast, if_pos ⟨by omega, by omega, by show ((m - fromN 1 2 (findN 1 2 m 30) : Nat) : Int) < 2 ^ bitsN 2 (findN 1 2 m 30); omega⟩]
    show (((fromN 1 2 (findN 1 2 m 30) : Nat) : Int) + ((m - fromN 1 2 (findN 1 2 m 30) : Nat) : Int), true) = _
    congr 1
    omega
  · show (0 : Int) ≤ ((m - fromN 1 2 (findN 1 2 m 30) : Nat) : Int)
    omega
  · show ((m - fromN 1 2 (findN 1 2 m 30) : Nat) : Int) < 2 ^ ((bitsN 2 (findN 1 2 m 30) : Nat) : Int).toNat
    rw [Int.toNat_natCast]
    omega
  · show (0 : Int) ≤ ((findN 1 2 m 30 : Nat) : Int)
    omega
  · show ((findN 1 2 m 30 : Nat) : Int) ≤ 29
    omega
  · show (0 : Int) ≤ ((bitsN 2 (findN 1 2 m 30) : Nat) : Int)
    omega
  · show ((bitsN 2 (findN 1 2 m 30) : Nat) : Int) ≤ 13
    omega
/-- The symbols rise with them. -/
theorem len_rise {n : Int} (h3 : 3 ≤ n) (h : n < 258) : (LengthCodeOf (n + 1)).1 = (LengthCodeOf n).1 ∨ (LengthCodeOf (n + 1)).1 = (LengthCodeOf n).1 + 1 := by
  obtain ⟨m, rfl⟩ := Int.eq_ofNat_of_zero_le (show 0 ≤ n by omega)
  have e : ((m : Int) + 1).toNat = m + 1 := by omega
  unfold LengthCodeOf
  rw [if_pos (by omega), if_pos (by omega), e, Int.toNat_natCast]
  unfold lenCode
  rw [if_pos (show m < 258 by omega)]
  by_cases h1 : m + 1 < 258
  · rw [if_pos h1]
    have h2 := len_28
    rcases find_next (c := 3) (k := 4) (n := m) (m := 28) (by omega) (by omega) with q | q
    · left
      show ((257 + findN 3 4 (m + 1) 28 : Nat) : Int) = ((257 + findN 3 4 m 28 : Nat) : Int)
      rw [q]
    · right
      show ((257 + findN 3 4 (m + 1) 28 : Nat) : Int) = ((257 + findN 3 4 m 28 : Nat) : Int) + 1
      rw [q]
      omega
  · obtain rfl : m = 257 := by omega
    rw [if_neg h1]
    right
    show ((285 : Nat) : Int) = ((257 + findN 3 4 257 28 : Nat) : Int) + 1
    rw [len_257]
    rfl
theorem dist_rise {n : Int} (h1 : 1 ≤ n) (h : n < 32768) : (DistCodeOf (n + 1)).1 = (DistCodeOf n).1 ∨ (DistCodeOf (n + 1)).1 = (DistCodeOf n).1 + 1 := by
  obtain ⟨m, rfl⟩ := Int.eq_ofNat_of_zero_le (show 0 ≤ n by omega)
  have e : ((m : Int) + 1).toNat = m + 1 := by omega
  unfold DistCodeOf
  rw [if_pos (by omega), if_pos (by omega), e, Int.toNat_natCast]
  unfold distCode
  have h2 := dist_30
  rcases find_next (c := 1) (k := 2) (n := m) (m := 30) (by omega) (by omega) with q | q
  · left
    show ((findN 1 2 (m + 1) 30 : Nat) : Int) = ((findN 1 2 m 30 : Nat) : Int)
    rw [q]
  · right
    show ((findN 1 2 (m + 1) 30 : Nat) : Int) = ((findN 1 2 m 30 : Nat) : Int) + 1
    rw [q]
    omega

end Go.Proofs.Ytbcnlggkoidmmaa.StepMath
