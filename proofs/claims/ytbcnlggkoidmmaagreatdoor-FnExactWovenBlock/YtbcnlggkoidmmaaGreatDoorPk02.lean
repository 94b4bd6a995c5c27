/-
  Blocks as bits: an Out under way, and bits that come behind it, all at once or part by part; the fill to a whole byte; whole bytes. Nothing here speaks of the program.
  What a block is to be, in bits, and what is told to the caller. Nothing here speaks of the program.
  Lengths and distances by their symbols, in plain numbers: steps that grow. Nothing here speaks of the program.
  Plain facts on prefix codes that are told by their lengths; nothing here speaks of the program.
-/
import Derived.Test.YtbcnlggkoidmmaaGreatDoorPk01
import Derived.WalkKit
namespace Go.Proofs.YtbcnlggkoidmmaaGreatDoor
namespace BlockMath
open OutMath PutMath BitsMath

/-- A text's bytes, as numbers. -/
def numsOf (s : ByteArray) : List Int := s.data.toList.map fun b => (b.toNat : Int)
theorem numsOf_allB (s : ByteArray) : AllB (numsOf s) := fun i => by
  unfold numsOf
  rw [List.getD_eq_getElem?_getD, List.getElem?_map]
  cases h : s.data.toList[i]? with
  | none => simp
  | some y =>
    have := UInt8.toNat_lt y
    simp only [Option.map_some, Option.getD_some]
    omega

theorem puts_congr {xs : List Int} {c : Nat} {f g : Nat → Int} : ∀ k, (∀ i, i < k → f i = g i) → puts xs c f k = puts xs c g k
  | 0, _ => rfl
  | k + 1, h => by
    show bstep _ _ _ = bstep _ _ _
    rw [puts_congr k (fun i hi => h i (by omega)), h k (by omega)]
theorem puts_add (xs : List Int) (c : Nat) (f : Nat → Int) (m : Nat) : ∀ k, puts xs c f (m + k) = puts (puts xs c f m) (c + m) (fun i => f (m + i)) k
  | 0 => rfl
  | k + 1 => by
    show bstep (puts xs c f (m + k)) (c + (m + k)) (f (m + k)) = bstep _ (c + m + k) (f (m + k))
    rw [puts_add xs c f m k, Nat.add_assoc]

/-- The bytes when bits come behind the first c. -/
def putB (xs : List Int) (c : Nat) (bs : List Int) : List Int := puts xs c (fun i => bs.getD i 0) bs.length
def Bits01 (bs : List Int) : Prop := ∀ i, 0 ≤ bs.getD i 0 ∧ bs.getD i 0 ≤ 1
theorem Bits01.append {a b : List Int} (ha : Bits01 a) (hb : Bits01 b) : Bits01 (a ++ b) := fun i => by
  rw [List.getD_eq_getElem?_getD]
  by_cases h : i < a.length
  · rw [List.getElem?_append_left h, ← List.getD_eq_getElem?_getD]
    exact ha i
  · rw [List.getElem?_append_right (by omega), ← List.getD_eq_getElem?_getD]
    exact hb _
theorem putB_append (xs : List Int) (c : Nat) (a b : List Int) : putB xs c (a ++ b) = putB (putB xs c a) (c + a.length) b := by
  unfold putB
  rw [List.length_append, puts_add]
  have e1 : puts xs c (fun i => (a ++ b).getD i 0) a.length = puts xs c (fun i => a.getD i 0) a.length := puts_congr _ fun i hi => by
    show (a ++ b).getD i 0 = a.getD i 0
    rw [List.getD_eq_getElem?_getD, List.getElem?_append_left hi, ← List.getD_eq_getElem?_getD]
  rw [e1]
  refine puts_congr _ fun i _ => ?_
  show (a ++ b).getD (a.length + i) 0 = b.getD i 0
  rw [List.getD_eq_getElem?_getD, List.getElem?_append_right (by omega), ← List.getD_eq_getElem?_getD, Nat.add_sub_cancel_left]
theorem putB_inv {xs : List Int} {c : Nat} {bs : List Int} (h : Inv xs c) (h01 : Bits01 bs) : Inv (putB xs c bs) (c + bs.length) := inv_puts h h01 _
theorem putB_allB {xs : List Int} {c : Nat} {bs : List Int} (h : Inv xs c) (ha : AllB xs) (h01 : Bits01 bs) : AllB (putB xs c bs) := allB_puts h ha h01 _

/-- An Out with bits behind it: none where the Out isn't right, or they become too many. -/
def bitsOut (o : ByteArray × Nat) (bs : List Int) : Option (ByteArray × Nat) :=
  if outB o.1 o.2 = true ∧ o.2 + bs.length ≤ 96000 then some (strOfNums (putB (numsOf o.1) o.2 bs), o.2 + bs.length) else none
theorem bitsOut_some {s : ByteArray} {c : Nat} {bs : List Int} (h : outB s c = true) (hc : c + bs.length ≤ 96000) : bitsOut (s, c) bs = some (strOfNums (putB (numsOf s) c bs), c + bs.length) := if_pos ⟨h, hc⟩
theorem bitsOut_none {s : ByteArray} {c : Nat} {bs : List Int} (h : ¬ (outB s c = true ∧ c + bs.length ≤ 96000)) : bitsOut (s, c) bs = none := if_neg h
/-- What comes out is a right Out again, and its bytes are those numbers. -/
theorem bitsOut_right {o o' : ByteArray × Nat} {bs : List Int} (h : bitsOut o bs = some o') (h01 : Bits01 bs) : outB o'.1 o'.2 = true ∧ o'.2 = o.2 + bs.length ∧ o'.2 ≤ 96000 ∧ numsOf o'.1 = putB (numsOf o.1) o.2 bs ∧ o'.1 = strOfNums (putB (numsOf o.1) o.2 bs) ∧ outB o.1 o.2 = true := by
  unfold bitsOut at h
  split at h
  · rename_i hh
    cases h
    have hi := bytes_inv o.1 o.2 hh.1
    have hA := putB_allB hi (numsOf_allB o.1) h01
    exact ⟨outB_of_inv (putB_inv hi h01) hA hh.2, rfl, hh.2, nums_back hA, rfl, hh.1⟩
  · cases h
/-- Part by part, or all at once. -/
theorem bitsOut_append (o : ByteArray × Nat) {a : List Int} (b : List Int) (h01 : Bits01 a) : bitsOut o (a ++ b) = (bitsOut o a).bind fun o' => bitsOut o' b := by
  cases h : bitsOut o a with
  | none =>
    show bitsOut o (a ++ b) = none
    unfold bitsOut at h ⊢
    split at h
    · cases h
    · rename_i hh
      refine if_neg fun hc => hh ⟨hc.1, ?_⟩
      have := hc.2
      rw [List.length_append] at this
      omega
  | some o' =>
    obtain ⟨h1, h2, h3, h4, h5, h6⟩ := bitsOut_right h h01
    show bitsOut o (a ++ b) = bitsOut o' b
    unfold bitsOut
    rw [h4, h2, ← putB_append, List.length_append]
    by_cases hc : o.2 + (a.length + b.length) ≤ 96000
    · rw [if_pos ⟨h6, hc⟩, if_pos ⟨h2 ▸ h1, by omega⟩, Nat.add_assoc]
    · rw [if_neg (fun q => hc q.2), if_neg (fun q => hc (by have := q.2; omega))]
/-- A number's bits, the lowest first, or the highest first. -/
def pieceBits (x : Int) (n : Nat) (high : Bool) : List Int := (List.range n).map fun k => bitOf x (if high then n - 1 - k else k)
theorem pieceBits_length (x : Int) (n : Nat) (high : Bool) : (pieceBits x n high).length = n := by simp [pieceBits]
theorem pieceBits_getD (x : Int) (n : Nat) (high : Bool) {k : Nat} (h : k < n) : (pieceBits x n high).getD k 0 = bitOf x (if high then n - 1 - k else k) := by
  unfold pieceBits
  rw [List.getD_eq_getElem?_getD, List.getElem?_map, List.getElem?_range h]
  rfl
theorem pieceBits_01 (x : Int) (n : Nat) (high : Bool) : Bits01 (pieceBits x n high) := fun i => by
  by_cases h : i < n
  · rw [pieceBits_getD x n high h]
    exact bitOf_01 _ _
  · rw [List.getD_eq_getElem?_getD, List.getElem?_eq_none (by rw [pieceBits_length]; omega)]
    simp
/-- What PutBits and PutCode tell, in these words. -/
theorem putOut_low (s : ByteArray) (c : Nat) (x : Int) (n : Nat) : putOut s c x (fun j => j) n = strOfNums (putB (numsOf s) c (pieceBits x n false)) := by
  unfold putOut putB numsOf
  rw [pieceBits_length]
  congr 1
  exact puts_congr n fun i hi => (pieceBits_getD x n false hi).symm
theorem putOut_high (s : ByteArray) (c : Nat) (x : Int) (n : Nat) : putOut s c x (fun j => n - 1 - j) n = strOfNums (putB (numsOf s) c (pieceBits x n true)) := by
  unfold putOut putB numsOf
  rw [pieceBits_length]
  congr 1
  exact puts_congr n fun i hi => (pieceBits_getD x n true hi).symm

end BlockMath
end Go.Proofs.YtbcnlggkoidmmaaGreatDoor

namespace Go.Proofs.YtbcnlggkoidmmaaGreatDoor
open Go.RowKit OutMath PutMath BitsMath BlockMath

/-- An Out as what is told by it. -/
def outSt (s : ByteArray) (c : Int) : Option (ByteArray × Nat) := if outB s c = true then some (s, c.toNat) else none
theorem outSt_isNone (s : ByteArray) (c : Int) : (outSt s c).isNone = !outB s c := by
  unfold outSt
  cases outB s c <;> rfl
/-- A block's three first bits. -/
def headBits (kind : Nat) (last : Bool) : List Int := pieceBits (if last then 1 else 0) 1 false ++ pieceBits (kind : Int) 2 false
theorem headBits_01 (kind : Nat) (last : Bool) : Bits01 (headBits kind last) := (pieceBits_01 _ _ _).append (pieceBits_01 _ _ _)
/-- What is put behind what was put. -/
theorem bind_bits (st : Option (ByteArray × Nat)) {a : List Int} (b : List Int) (h : Bits01 a) : ((st.bind fun o => bitsOut o a).bind fun o => bitsOut o b) = st.bind fun o => bitsOut o (a ++ b) := by
  cases st with
  | none => rfl
  | some o => exact (bitsOut_append o b h).symm

/-- What is told to the caller. -/
def blkAns : Option (ByteArray × Nat) → Value
  | some o => .tuple #[.agg #[.string o.1, .int .i64 (o.2 : Int)], .bool true]
  | none => .tuple #[.agg #[.string ⟨#[]⟩, .int .i64 0], .bool false]

theorem blkAns_form (o : Option (ByteArray × Nat)) : ∃ t n b, blkAns o = .tuple #[.agg #[.string t, .int .i64 n], .bool b] := by
  cases o with
  | none => exact ⟨_, _, _, rfl⟩
  | some o => exact ⟨_, _, _, rfl⟩
end Go.Proofs.YtbcnlggkoidmmaaGreatDoor

namespace Go.Proofs.YtbcnlggkoidmmaaGreatDoor.StepMath

/-- How many extra bits the step j has, where each k steps have one more. -/
def bitsN (k j : Nat) : Nat := (j - k) / k
/-- The least number of the step j. -/
def fromN (c k : Nat) : Nat → Nat
  | 0 => c
  | j + 1 => fromN c k j + 2 ^ bitsN k j
/-- The last step below m that begins at n or ahead of it. -/
def findN (c k n : Nat) : Nat → Nat
  | 0 => 0
  | m + 1 => if fromN c k m ≤ n then m else findN c k n m
theorem pow_pos2 (j : Nat) : 1 ≤ 2 ^ j := Nat.one_le_two_pow
theorem from_lt (c k j : Nat) : fromN c k j < fromN c k (j + 1) := by
  have := pow_pos2 (bitsN k j)
  show fromN c k j < fromN c k j + 2 ^ bitsN k j
  omega
theorem from_mono (c k : Nat) : ∀ d i, fromN c k i ≤ fromN c k (i + d)
  | 0, _ => Nat.le_refl _
  | d + 1, i => Nat.le_trans (from_mono c k d i) (Nat.le_of_lt (from_lt c k (i + d)))
theorem from_le {c k i j : Nat} (h : i ≤ j) : fromN c k i ≤ fromN c k j := by
  obtain ⟨d, rfl⟩ := Nat.exists_eq_add_of_le h
  exact from_mono c k d i
theorem find_spec {c k n : Nat} (hc : c ≤ n) : ∀ m, 0 < m → findN c k n m < m ∧ fromN c k (findN c k n m) ≤ n ∧ ∀ j, findN c k n m < j → j < m → n < fromN c k j
  | 0, h => by omega
  | m + 1, _ => by
    unfold findN
    split
    · rename_i h
      exact ⟨by omega, h, fun j h1 h2 => by omega⟩
    · rename_i h
      rcases Nat.eq_zero_or_pos m with h0 | h0
      · subst h0
        exact absurd hc h
      · obtain ⟨q1, q2, q3⟩ := find_spec (c := c) (k := k) hc m h0
        refine ⟨by omega, q2, fun j h1 h2 => ?_⟩
        rcases Nat.lt_or_ge j m with h3 | h3
        · exact q3 j h1 h3
        · have : j = m := by omega
          subst this
          omega
/-- The step is told by its ends. -/
theorem find_told {c k n m j : Nat} (h1 : fromN c k j ≤ n) (h2 : n < fromN c k (j + 1)) (hj : j < m) (hc : c ≤ n) : findN c k n m = j := by
  obtain ⟨q1, q2, q3⟩ := find_spec (c := c) (k := k) hc m (by omega)
  rcases Nat.lt_trichotomy (findN c k n m) j with h | h | h
  · have := q3 j h hj
    omega
  · exact h
  · have := from_le (c := c) (k := k) (show j + 1 ≤ findN c k n m from h)
    omega
theorem find_in {c k n m : Nat} (hc : c ≤ n) (hm : n < fromN c k m) : findN c k n m < m ∧ fromN c k (findN c k n m) ≤ n ∧ n < fromN c k (findN c k n m + 1) := by
  have h0 : 0 < m := by
    rcases Nat.eq_zero_or_pos m with h | h
    · subst h
      have : n < c := hm
      omega
    · exact h
  obtain ⟨q1, q2, q3⟩ := find_spec (c := c) (k := k) hc m h0
  refine ⟨q1, q2, ?_⟩
  rcases Nat.lt_or_ge (findN c k n m + 1) m with h | h
  · exact q3 _ (Nat.lt_succ_self _) h
  · have : findN c k n m + 1 = m := by omega
    rw [this]
    exact hm
theorem find_extra {c k n m : Nat} (hc : c ≤ n) (hm : n < fromN c k m) : n - fromN c k (findN c k n m) < 2 ^ bitsN k (findN c k n m) := by
  obtain ⟨_, h1, h2⟩ := find_in hc hm
  have : fromN c k (findN c k n m + 1) = fromN c k (findN c k n m) + 2 ^ bitsN k (findN c k n m) := rfl
  omega
theorem find_step (c k n m : Nat) : findN c k n (m + 1) = if fromN c k m ≤ n then m else findN c k n m := rfl

/-! Lengths: steps of 4 from 3 on; the 28th would begin at 259. Distances: steps of 2 from 1 on; the 30th would begin at 32769. -/
theorem len_8 : fromN 3 4 8 = 11 := by decide
theorem len_28 : fromN 3 4 28 = 259 := by decide
theorem dist_4 : fromN 1 2 4 = 5 := by decide
theorem dist_30 : fromN 1 2 30 = 32769 := by decide
theorem len_small : ∀ j, j ≤ 8 → fromN 3 4 j = 3 + j ∧ bitsN 4 j ≤ 1 := by decide
theorem dist_small : ∀ j, j ≤ 4 → fromN 1 2 j = 1 + j ∧ bitsN 2 j ≤ 1 := by decide
theorem len_bits : ∀ j, j < 28 → bitsN 4 j ≤ 5 ∧ (j < 8 → bitsN 4 j = 0) := by decide
theorem dist_bits : ∀ j, j < 30 → bitsN 2 j ≤ 13 ∧ (j < 4 → bitsN 2 j = 0) := by decide
/-- The symbol of a length, its extra bits, and what they are. -/
def lenCode (n : Nat) : Nat × Nat × Nat := if n < 258 then (257 + findN 3 4 n 28, bitsN 4 (findN 3 4 n 28), n - fromN 3 4 (findN 3 4 n 28)) else (285, 0, 0)
def distCode (n : Nat) : Nat × Nat × Nat := (findN 1 2 n 30, bitsN 2 (findN 1 2 n 30), n - fromN 1 2 (findN 1 2 n 30))
/-- What the functions answer, at every number. -/
def LengthCodeOf (n : Int) : Int × Int × Int := if 3 ≤ n ∧ n ≤ 258 then (((lenCode n.toNat).1 : Int), ((lenCode n.toNat).2.1 : Int), ((lenCode n.toNat).2.2 : Int)) else (0, 0, 0)
def DistCodeOf (n : Int) : Int × Int × Int := if 1 ≤ n ∧ n ≤ 32768 then (((distCode n.toNat).1 : Int), ((distCode n.toNat).2.1 : Int), ((distCode n.toNat).2.2 : Int)) else (0, 0, 0)
theorem len_fact {n : Nat} (h3 : 3 ≤ n) (h : n < 258) : findN 3 4 n 28 < 28 ∧ fromN 3 4 (findN 3 4 n 28) ≤ n ∧ n - fromN 3 4 (findN 3 4 n 28) < 2 ^ bitsN 4 (findN 3 4 n 28) := by
  have h1 := len_28
  have h2 := find_in (c := 3) (k := 4) (n := n) (m := 28) h3 (by omega)
  exact ⟨h2.1, h2.2.1, find_extra h3 (by omega)⟩
theorem dist_fact {n : Nat} (h1 : 1 ≤ n) (h : n ≤ 32768) : findN 1 2 n 30 < 30 ∧ fromN 1 2 (findN 1 2 n 30) ≤ n ∧ n - fromN 1 2 (findN 1 2 n 30) < 2 ^ bitsN 2 (findN 1 2 n 30) := by
  have h2 := dist_30
  have h3 := find_in (c := 1) (k := 2) (n := n) (m := 30) h1 (by omega)
  exact ⟨h3.1, h3.2.1, find_extra h1 (by omega)⟩
theorem pow_cast (m : Nat) : ((2 ^ m : Nat) : Int) = (2 : Int) ^ m := by
  induction m with
  | zero => rfl
  | succ m ih => rw [Nat.pow_succ, Int.pow_succ, Int.natCast_mul, ih]; rfl

end Go.Proofs.YtbcnlggkoidmmaaGreatDoor.StepMath

namespace Go.Proofs.YtbcnlggkoidmmaaGreatDoor
namespace CodeMath
open OutMath

/-- All lengths are in 0 .. 15. -/
def OkLens (f : Nat → Int) (n : Nat) : Prop := ∀ i, i < n → 0 ≤ f i ∧ f i ≤ 15
/-- To what the first k lengths are full. -/
def room (f : Nat → Int) : Nat → Int
  | 0 => 0
  | k + 1 => room f k + (if 0 < f k then p2 (15 - f k).toNat else 0)
/-- How many of the first k are not 0. -/
def cnt (f : Nat → Int) : Nat → Int
  | 0 => 0
  | k + 1 => cnt f k + (if 0 < f k then 1 else 0)
/-- How many of the first k are s. -/
def cntS (f : Nat → Int) (s : Int) : Nat → Int
  | 0 => 0
  | k + 1 => cntS f s k + (if f k = s then 1 else 0)
/-- The number behind the last code of length s. -/
def nx (f : Nat → Int) (n : Nat) : Nat → Int
  | 0 => 0
  | s + 1 => 2 * nx f n s + cntS f ((s + 1 : Nat) : Int) n
/-- The code of symbol i. -/
def codeOf (f : Nat → Int) (n i : Nat) : Int := if f i ≤ 0 then 0 else 2 * nx f n ((f i).toNat - 1) + cntS f (f i) i

theorem room_bd (f : Nat → Int) : ∀ k, 0 ≤ room f k ∧ (OkLens f k → room f k ≤ 16384 * k)
  | 0 => by simp [room]
  | k + 1 => by
    have h := room_bd f k
    have hp := p2_pos (15 - f k).toNat
    refine ⟨by unfold room; split <;> omega, fun ho => ?_⟩
    have h2 := h.2 (fun i hi => ho i (by omega))
    have h3 := ho k (by omega)
    have h4 : 0 < f k → p2 (15 - f k).toNat ≤ 16384 := fun hf => by
      have := p2_le (show (15 - f k).toNat ≤ 14 by omega)
      have e : p2 14 = 16384 := by decide +kernel
      omega
    unfold room
    split
    · have := h4 (by assumption); omega
    · omega
theorem cnt_bd (f : Nat → Int) : ∀ k : Nat, 0 ≤ cnt f k ∧ cnt f k ≤ k
  | 0 => by simp [cnt]
  | k + 1 => by have h := cnt_bd f k; unfold cnt; split <;> omega
theorem cntS_bd (f : Nat → Int) (s : Int) : ∀ k : Nat, 0 ≤ cntS f s k ∧ cntS f s k ≤ k
  | 0 => by simp [cntS]
  | k + 1 => by have h := cntS_bd f s k; unfold cntS; split <;> omega
theorem cntS_mono (f : Nat → Int) (s : Int) {a : Nat} : ∀ {b : Nat}, a ≤ b → cntS f s a ≤ cntS f s b
  | 0, h => by have : a = 0 := by omega
               subst this; omega
  | b + 1, h => by
    by_cases e : a = b + 1
    · subst e; omega
    · have := cntS_mono f s (show a ≤ b by omega)
      show cntS f s a ≤ cntS f s b + (if f b = s then 1 else 0)
      split <;> omega
theorem cntS_lt (f : Nat → Int) (s : Int) {i n : Nat} (h : i < n) (e : f i = s) : cntS f s i < cntS f s n := by
  have h1 := cntS_mono f s (show i + 1 ≤ n by omega)
  have h2 : cntS f s (i + 1) = cntS f s i + 1 := by
    show cntS f s i + (if f i = s then 1 else 0) = _
    rw [if_pos e]
  omega
theorem nx_bd (f : Nat → Int) (n : Nat) (hn : n ≤ 288) : ∀ s, 0 ≤ nx f n s ∧ nx f n s + 288 ≤ 288 * p2 s
  | 0 => by simp [nx, p2]
  | s + 1 => by
    have h := nx_bd f n hn s
    have hc := cntS_bd f ((s + 1 : Nat) : Int) n
    show 0 ≤ 2 * nx f n s + cntS f ((s + 1 : Nat) : Int) n ∧ 2 * nx f n s + cntS f ((s + 1 : Nat) : Int) n + 288 ≤ _
    rw [p2_succ]
    omega
theorem nx_lt (f : Nat → Int) (n : Nat) (hn : n ≤ 288) (s : Nat) (hs : s ≤ 15) : 0 ≤ nx f n s ∧ nx f n s ≤ 9437184 := by
  have h := nx_bd f n hn s
  have h2 := p2_le hs
  have e : p2 15 = 32768 := by decide +kernel
  omega

/-- The kind of n lengths that are right. -/
def kindOf (f : Nat → Int) (n : Nat) : Int :=
  if cnt f n = 0 then 1 else if room f n = 32768 then 2 else if 32768 < room f n then 5 else if cnt f n = 1 ∧ room f n = 16384 then 3 else 4

/-- What the lengths say: they are not right, or their kind. -/
def Kind (f : Nat → Int) (n : Nat) (k : Int) : Prop := (k = 0 ∧ ¬ (n ≤ 288 ∧ OkLens f n)) ∨ (n ≤ 288 ∧ OkLens f n ∧ k = kindOf f n)
theorem kindOf_bd (f : Nat → Int) (n : Nat) : 1 ≤ kindOf f n ∧ kindOf f n ≤ 5 := by
  unfold kindOf
  split
  · omega
  · split
    · omega
    · split
      · omega
      · split <;> omega
/-- What is written when lengths below s, and the first i of length s, are gone through. -/
def outAt (f : Nat → Int) (n : Nat) (s : Int) (i : Nat) : Nat → Int := fun j => if 0 < f j ∧ (f j < s ∨ f j = s ∧ j < i) then codeOf f n j else 0

theorem outAt_start (f : Nat → Int) (n j : Nat) : outAt f n 1 0 j = 0 := by
  unfold outAt
  rw [if_neg (by omega)]
theorem outAt_here (f : Nat → Int) (n : Nat) (t j : Nat) (ht : 1 ≤ t) (e : f j = (t : Int)) (i : Nat) : (if i = j then 2 * nx f n (t - 1) + cntS f (t : Int) j else outAt f n t j i) = outAt f n t (j + 1) i := by
  by_cases hij : i = j
  · subst hij
    rw [if_pos rfl]
    unfold outAt
    rw [if_pos (by omega)]
    unfold codeOf
    rw [if_neg (by omega), e, Int.toNat_natCast]
  · rw [if_neg hij]
    unfold outAt
    by_cases h : 0 < f i ∧ (f i < (t : Int) ∨ f i = (t : Int) ∧ i < j)
    · rw [if_pos h, if_pos (by omega)]
    · rw [if_neg h, if_neg (by omega)]
theorem outAt_skip (f : Nat → Int) (n : Nat) (t j : Nat) (e : ¬ f j = (t : Int)) (i : Nat) : outAt f n t j i = outAt f n t (j + 1) i := by
  unfold outAt
  by_cases h : 0 < f i ∧ (f i < (t : Int) ∨ f i = (t : Int) ∧ i < j)
  · rw [if_pos h, if_pos (by omega)]
  · rw [if_neg h, if_neg ?_]
    intro k
    by_cases hij : i = j
    · subst hij; omega
    · omega
theorem outAt_turn (f : Nat → Int) (n t i : Nat) (hi : i < n) : outAt f n t n i = outAt f n ((t + 1 : Nat) : Int) 0 i := by
  unfold outAt
  by_cases h : 0 < f i ∧ (f i < (t : Int) ∨ f i = (t : Int) ∧ i < n)
  · rw [if_pos h, if_pos (by omega)]
  · rw [if_neg h, if_neg (by omega)]
theorem outAt_end (f : Nat → Int) (n i : Nat) (h : f i ≤ 15) : outAt f n ((16 : Nat) : Int) 0 i = codeOf f n i := by
  unfold outAt
  by_cases k : 0 < f i
  · rw [if_pos (by omega)]
  · rw [if_neg (by omega)]
    unfold codeOf
    rw [if_pos (by omega)]
theorem nx_step (f : Nat → Int) (n t : Nat) (ht : 1 ≤ t) : 2 * nx f n (t - 1) + cntS f (t : Int) n = nx f n t := by
  obtain ⟨s, rfl⟩ : ∃ s, t = s + 1 := ⟨t - 1, by omega⟩
  rfl

/-- Lengths that have codes. -/
def Coded (f : Nat → Int) (n : Nat) : Prop := n ≤ 288 ∧ OkLens f n ∧ room f n ≤ 32768
theorem room_of_cnt (f : Nat → Int) : ∀ k, cnt f k = 0 → room f k = 0
  | 0, _ => rfl
  | k + 1, h => by
    have hb := cnt_bd f k
    have h' : cnt f k + (if 0 < f k then 1 else 0) = 0 := h
    by_cases hp : 0 < f k
    · rw [if_pos hp] at h'; omega
    · rw [if_neg hp] at h'
      show room f k + (if 0 < f k then p2 (15 - f k).toNat else 0) = 0
      rw [if_neg hp, room_of_cnt f k (by omega)]
      rfl
theorem kind_good {f : Nat → Int} {n : Nat} {k : Int} (h : Kind f n k) (hG : Coded f n) : k ≠ 0 ∧ k ≠ 5 := by
  obtain ⟨h1, h2, h3⟩ := hG
  rcases h with ⟨_, h⟩ | ⟨_, _, h⟩
  · exact absurd ⟨h1, h2⟩ h
  · have hb := kindOf_bd f n
    refine ⟨by omega, ?_⟩
    rw [h]
    unfold kindOf
    split
    · omega
    · split
      · omega
      · rw [if_neg (by omega)]
        split <;> omega
theorem kind_bad {f : Nat → Int} {n : Nat} {k : Int} (h : Kind f n k) (hB : ¬ Coded f n) : k = 0 ∨ k = 5 := by
  rcases h with ⟨h, _⟩ | ⟨h1, h2, h⟩
  · exact .inl h
  · right
    have hr : 32768 < room f n := by
      by_cases hq : 32768 < room f n
      · exact hq
      · exact absurd ⟨h1, h2, by omega⟩ hB
    have hc : ¬ cnt f n = 0 := fun e => by have := room_of_cnt f n e; omega
    rw [h]
    unfold kindOf
    rw [if_neg hc, if_neg (by omega), if_pos hr]

/-- The sum of count times length. -/
def cost (f c : Nat → Int) : Nat → Int
  | 0 => 0
  | k + 1 => cost f c k + c k * f k
end CodeMath
end Go.Proofs.YtbcnlggkoidmmaaGreatDoor
