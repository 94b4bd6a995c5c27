/-
  Blocks as bits: an Out under way, and bits that come behind it, all at once or part by part; the fill to a whole byte; whole bytes. Nothing here speaks of the program.
  What a block is to be, in bits, and what is told to the caller. Nothing here speaks of the program.
  Plain facts on prefix codes that are told by their lengths; nothing here speaks of the program.
  Plain facts on codes as beginnings of bits; nothing here speaks of the program.
  Runs of lengths, in plain numbers: the Runs of lengths, and the lengths of Runs. Nothing here speaks of the program.
-/
import Derived.Test.YtbcnlggkoidmmabGreatDoorPk01
import Derived.WalkKit
namespace Go.Proofs.YtbcnlggkoidmmabGreatDoor
namespace BlockMath
open OutMath PutMath BitsMath

/-- A text's bytes, as numbers. -/
def numsOf (s : ByteArray) : List Int := s.data.toList.map fun b => (b.toNat : Int)
theorem numsOf_length (s : ByteArray) : (numsOf s).length = s.size := by simp [numsOf]
theorem numsOf_allB (s : ByteArray) : AllB (numsOf s) := fun i => by
  unfold numsOf
  rw [List.getD_eq_getElem?_getD, List.getElem?_map]
  cases h : s.data.toList[i]? with
  | none => simp
  | some y =>
    have := UInt8.toNat_lt y
    simp only [Option.map_some, Option.getD_some]
    omega

theorem puts_congr {xs : List Int} {c : Nat} {f g : Nat → Int} : ∀ k, (∀ i, i < k → f i = g i) → puts xs c f k = puts xs c g k
  | 0, _ => rfl
  | k + 1, h => by
    show bstep _ _ _ = bstep _ _ _
    rw [puts_congr k (fun i hi => h i (by omega)), h k (by omega)]
theorem puts_add (xs : List Int) (c : Nat) (f : Nat → Int) (m : Nat) : ∀ k, puts xs c f (m + k) = puts (puts xs c f m) (c + m) (fun i => f (m + i)) k
  | 0 => rfl
  | k + 1 => by
    show bstep (puts xs c f (m + k)) (c + (m + k)) (f (m + k)) = bstep _ (c + m + k) (f (m + k))
    rw [puts_add xs c f m k, Nat.add_assoc]

/-- The bytes when bits come behind the first c. -/
def putB (xs : List Int) (c : Nat) (bs : List Int) : List Int := puts xs c (fun i => bs.getD i 0) bs.length
def Bits01 (bs : List Int) : Prop := ∀ i, 0 ≤ bs.getD i 0 ∧ bs.getD i 0 ≤ 1
theorem Bits01.append {a b : List Int} (ha : Bits01 a) (hb : Bits01 b) : Bits01 (a ++ b) := fun i => by
  rw [List.getD_eq_getElem?_getD]
  by_cases h : i < a.length
  · rw [List.getElem?_append_left h, ← List.getD_eq_getElem?_getD]
    exact ha i
  · rw [List.getElem?_append_right (by omega), ← List.getD_eq_getElem?_getD]
    exact hb _
theorem putB_append (xs : List Int) (c : Nat) (a b : List Int) : putB xs c (a ++ b) = putB (putB xs c a) (c + a.length) b := by
  unfold putB
  rw [List.length_append, puts_add]
  have e1 : puts xs c (fun i => (a ++ b).getD i 0) a.length = puts xs c (fun i => a.getD i 0) a.length := puts_congr _ fun i hi => by
    show (a ++ b).getD i 0 = a.getD i 0
    rw [List.getD_eq_getElem?_getD, List.getElem?_append_left hi, ← List.getD_eq_getElem?_getD]
  rw [e1]
  refine puts_congr _ fun i _ => ?_
  show (a ++ b).getD (a.length + i) 0 = b.getD i 0
  rw [List.getD_eq_getElem?_getD, List.getElem?_append_right (by omega), ← List.getD_eq_getElem?_getD, Nat.add_sub_cancel_left]
theorem putB_inv {xs : List Int} {c : Nat} {bs : List Int} (h : Inv xs c) (h01 : Bits01 bs) : Inv (putB xs c bs) (c + bs.length) := inv_puts h h01 _
theorem putB_allB {xs : List Int} {c : Nat} {bs : List Int} (h : Inv xs c) (ha : AllB xs) (h01 : Bits01 bs) : AllB (putB xs c bs) := allB_puts h ha h01 _

/-- An Out with bits behind it: none where the Out isn't right, or they become too many. -/
def bitsOut (o : ByteArray × Nat) (bs : List Int) : Option (ByteArray × Nat) :=
  if outB o.1 o.2 = true ∧ o.2 + bs.length ≤ 96000 then some (strOfNums (putB (numsOf o.1) o.2 bs), o.2 + bs.length) else none
theorem bitsOut_some {s : ByteArray} {c : Nat} {bs : List Int} (h : outB s c = true) (hc : c + bs.length ≤ 96000) : bitsOut (s, c) bs = some (strOfNums (putB (numsOf s) c bs), c + bs.length) := if_pos ⟨h, hc⟩
theorem bitsOut_none {s : ByteArray} {c : Nat} {bs : List Int} (h : ¬ (outB s c = true ∧ c + bs.length ≤ 96000)) : bitsOut (s, c) bs = none := if_neg h
/-- What comes out is a right Out again, and its bytes are those numbers. -/
theorem bitsOut_right {o o' : ByteArray × Nat} {bs : List Int} (h : bitsOut o bs = some o') (h01 : Bits01 bs) : outB o'.1 o'.2 = true ∧ o'.2 = o.2 + bs.length ∧ o'.2 ≤ 96000 ∧ numsOf o'.1 = putB (numsOf o.1) o.2 bs ∧ o'.1 = strOfNums (putB (numsOf o.1) o.2 bs) ∧ outB o.1 o.2 = true := by
  unfold bitsOut at h
  split at h
  · rename_i hh
    cases h
    have hi := bytes_inv o.1 o.2 hh.1
    have hA := putB_allB hi (numsOf_allB o.1) h01
    exact ⟨outB_of_inv (putB_inv hi h01) hA hh.2, rfl, hh.2, nums_back hA, rfl, hh.1⟩
  · cases h
/-- Part by part, or all at once. -/
theorem bitsOut_append (o : ByteArray × Nat) {a : List Int} (b : List Int) (h01 : Bits01 a) : bitsOut o (a ++ b) = (bitsOut o a).bind fun o' => bitsOut o' b := by
  cases h : bitsOut o a with
  | none =>
    show bitsOut o (a ++ b) = none
    unfold bitsOut at h ⊢
    split at h
    · cases h
    · rename_i hh
      refine if_neg fun hc => hh ⟨hc.1, ?_⟩
      have := hc.2
      rw [List.length_append] at this
      omega
  | some o' =>
    obtain ⟨h1, h2, h3, h4, h5, h6⟩ := bitsOut_right h h01
    show bitsOut o (a ++ b) = bitsOut o' b
    unfold bitsOut
    rw [h4, h2, ← putB_append, List.length_append]
    by_cases hc : o.2 + (a.length + b.length) ≤ 96000
    · rw [if_pos ⟨h6, hc⟩, if_pos ⟨h2 ▸ h1, by omega⟩, Nat.add_assoc]
    · rw [if_neg (fun q => hc q.2), if_neg (fun q => hc (by have := q.2; omega))]
/-- A number's bits, the lowest first, or the highest first. -/
def pieceBits (x : Int) (n : Nat) (high : Bool) : List Int := (List.range n).map fun k => bitOf x (if high then n - 1 - k else k)
theorem pieceBits_length (x : Int) (n : Nat) (high : Bool) : (pieceBits x n high).length = n := by simp [pieceBits]
theorem pieceBits_getD (x : Int) (n : Nat) (high : Bool) {k : Nat} (h : k < n) : (pieceBits x n high).getD k 0 = bitOf x (if high then n - 1 - k else k) := by
  unfold pieceBits
  rw [List.getD_eq_getElem?_getD, List.getElem?_map, List.getElem?_range h]
  rfl
theorem pieceBits_01 (x : Int) (n : Nat) (high : Bool) : Bits01 (pieceBits x n high) := fun i => by
  by_cases h : i < n
  · rw [pieceBits_getD x n high h]
    exact bitOf_01 _ _
  · rw [List.getD_eq_getElem?_getD, List.getElem?_eq_none (by rw [pieceBits_length]; omega)]
    simp
/-- What PutBits and PutCode tell, in these words. -/
theorem putOut_low (s : ByteArray) (c : Nat) (x : Int) (n : Nat) : putOut s c x (fun j => j) n = strOfNums (putB (numsOf s) c (pieceBits x n false)) := by
  unfold putOut putB numsOf
  rw [pieceBits_length]
  congr 1
  exact puts_congr n fun i hi => (pieceBits_getD x n false hi).symm
theorem putOut_high (s : ByteArray) (c : Nat) (x : Int) (n : Nat) : putOut s c x (fun j => n - 1 - j) n = strOfNums (putB (numsOf s) c (pieceBits x n true)) := by
  unfold putOut putB numsOf
  rw [pieceBits_length]
  congr 1
  exact puts_congr n fun i hi => (pieceBits_getD x n true hi).symm

/-- As many bits of 0 as fill the last byte change no byte. -/
theorem puts_fill {xs : List Int} {c : Nat} (h : Inv xs c) : ∀ j, j ≤ (8 - c % 8) % 8 → puts xs c (fun _ => 0) j = xs
  | 0, _ => rfl
  | j + 1, hj => by
    show bstep (puts xs c (fun _ => 0) j) (c + j) 0 = xs
    rw [puts_fill h j (by omega)]
    unfold bstep
    have hp : pre xs (c + j) = xs := if_neg (by omega)
    rw [hp, Int.zero_mul, Int.add_zero]
    have hl : (c + j) / 8 < xs.length := by rw [h.1]; omega
    rw [List.getD_eq_getElem?_getD, List.getElem?_eq_getElem hl]
    exact List.set_getElem_self hl
def fillBits (c : Nat) : List Int := List.replicate ((8 - c % 8) % 8) 0
theorem fillBits_length (c : Nat) : (fillBits c).length = (8 - c % 8) % 8 := by simp [fillBits]
theorem zeros_getD (n i : Nat) : (List.replicate n (0 : Int)).getD i 0 = 0 := by
  rw [List.getD_eq_getElem?_getD, List.getElem?_replicate]
  split <;> rfl
theorem fillBits_01 (c : Nat) : Bits01 (fillBits c) := fun i => by
  unfold fillBits
  rw [zeros_getD]
  omega
theorem putB_fill {xs : List Int} {c : Nat} (h : Inv xs c) : putB xs c (fillBits c) = xs := by
  unfold putB
  rw [fillBits_length, puts_congr (g := fun _ => 0) _ (fun i _ => by unfold fillBits; exact zeros_getD _ _)]
  exact puts_fill h _ (Nat.le_refl _)

/-- Whole bytes behind whole bytes. -/
def byteBits : List Int → List Int
  | [] => []
  | y :: ys => pieceBits y 8 false ++ byteBits ys
theorem byteBits_length : ∀ ys : List Int, (byteBits ys).length = 8 * ys.length
  | [] => rfl
  | y :: ys => by
    show (pieceBits y 8 false ++ byteBits ys).length = _
    rw [List.length_append, pieceBits_length, byteBits_length ys, List.length_cons]
    omega
theorem puts_byte {xs : List Int} {c : Nat} (h : xs.length = c / 8) (hc : c % 8 = 0) (y : Int) : ∀ k, k < 8 → puts xs c (fun i => bitOf y i) (k + 1) = xs ++ [y % p2 (k + 1)]
  | 0, _ => by
    show bstep xs c (bitOf y 0) = _
    unfold bstep
    have hp : pre xs c = xs ++ [0] := if_pos hc
    rw [hp, hc, List.getD_eq_getElem?_getD, List.getElem?_append_right (by omega), h, Nat.sub_self, List.set_append_right _ _ (by omega), h, Nat.sub_self]
    simp only [List.getElem?_cons_zero, Option.getD_some, List.set_cons_zero, bitOf, p2_zero, Nat.zero_add]
    rw [show p2 1 = 2 by simp [p2]]
    simp
  | k + 1, hk => by
    show bstep (puts xs c (fun i => bitOf y i) (k + 1)) (c + (k + 1)) (bitOf y (k + 1)) = _
    rw [puts_byte h hc y k (by omega)]
    unfold bstep
    have hp : pre (xs ++ [y % p2 (k + 1)]) (c + (k + 1)) = xs ++ [y % p2 (k + 1)] := if_neg (by omega)
    have hd : (c + (k + 1)) / 8 = xs.length := by omega
    rw [hp, hd, List.getD_eq_getElem?_getD, List.getElem?_append_right (Nat.le_refl _), Nat.sub_self, List.set_append_right _ _ (Nat.le_refl _), Nat.sub_self, show (c + (k + 1)) % 8 = k + 1 by omega]
    simp only [List.getElem?_cons_zero, Option.getD_some, List.set_cons_zero]
    rw [p2_succ (k + 1), mod_split y (p2 (k + 1)) (p2_pos _)]
    rfl
theorem putB_bytes : ∀ (ys : List Int) (xs : List Int) (c : Nat), xs.length = c / 8 → c % 8 = 0 → AllB ys → putB xs c (byteBits ys) = xs ++ ys
  | [], xs, c, _, _, _ => by rw [List.append_nil]; rfl
  | y :: ys, xs, c, h, hc, ha => by
    show putB xs c (pieceBits y 8 false ++ byteBits ys) = _
    have hy := ha 0
    simp only [List.getD_cons_zero] at hy
    have e1 : putB xs c (pieceBits y 8 false) = xs ++ [y] := by
      unfold putB
      rw [pieceBits_length, puts_congr (g := fun i => bitOf y i) 8 (fun i hi => pieceBits_getD y 8 false hi), puts_byte h hc y 7 (by omega), show p2 (7 + 1) = 256 by simp [p2], Int.emod_eq_of_lt hy.1 hy.2]
    rw [putB_append, e1, pieceBits_length, putB_bytes ys (xs ++ [y]) (c + 8) (by rw [List.length_append, List.length_singleton]; omega) (by omega) (fun i => by have := ha (i + 1); rwa [List.getD_cons_succ] at this), List.append_assoc]
    rfl
end BlockMath
end Go.Proofs.YtbcnlggkoidmmabGreatDoor

namespace Go.Proofs.YtbcnlggkoidmmabGreatDoor
open Go.RowKit OutMath PutMath BitsMath BlockMath

/-- An Out as what is told by it. -/
def outSt (s : ByteArray) (c : Int) : Option (ByteArray × Nat) := if outB s c = true then some (s, c.toNat) else none
theorem outSt_isNone (s : ByteArray) (c : Int) : (outSt s c).isNone = !outB s c := by
  unfold outSt
  cases outB s c <;> rfl
/-- A block's three first bits. -/
def headBits (kind : Nat) (last : Bool) : List Int := pieceBits (if last then 1 else 0) 1 false ++ pieceBits (kind : Int) 2 false
theorem headBits_01 (kind : Nat) (last : Bool) : Bits01 (headBits kind last) := (pieceBits_01 _ _ _).append (pieceBits_01 _ _ _)
theorem headBits_length (kind : Nat) (last : Bool) : (headBits kind last).length = 3 := by
  unfold headBits
  rw [List.length_append, pieceBits_length, pieceBits_length]
/-- What is put behind what was put. -/
theorem bind_bits (st : Option (ByteArray × Nat)) {a : List Int} (b : List Int) (h : Bits01 a) : ((st.bind fun o => bitsOut o a).bind fun o => bitsOut o b) = st.bind fun o => bitsOut o (a ++ b) := by
  cases st with
  | none => rfl
  | some o => exact (bitsOut_append o b h).symm

/-- The bits of a block of type 0 behind the first three: the fill, both numbers, the text. -/
def storedBits (c : Nat) (t : ByteArray) : List Int := fillBits c ++ (pieceBits (t.size : Int) 16 false ++ (pieceBits (65535 - (t.size : Int)) 16 false ++ byteBits (numsOf t)))
/-- What StoredBlock comes to. -/
def storedOut (s : ByteArray) (c : Int) (t : ByteArray) (last : Bool) : Option (ByteArray × Nat) :=
  if t.size ≤ 2600 then (outSt s c).bind fun o => bitsOut o (headBits 0 last ++ storedBits (o.2 + 3) t) else none

theorem byte_back : ((fun n : Int => UInt8.ofNat n.toNat) ∘ fun b : UInt8 => (b.toNat : Int)) = id := by
  funext b
  simp
theorem str_nums (s : ByteArray) : strOfNums (numsOf s) = s := by
  obtain ⟨d⟩ := s
  simp [strOfNums, numsOf, byte_back]
theorem str_two (s t : ByteArray) : strOfNums (numsOf s ++ numsOf t) = s ++ t := by
  have h : (s ++ t).data = s.data ++ t.data := ByteArray.data_append
  have e : strOfNums (numsOf s ++ numsOf t) = ⟨s.data ++ t.data⟩ := by
    simp [strOfNums, numsOf, byte_back]
  rw [e, ← h]
/-- FillByte, as bits. -/
theorem fill_bits {s : ByteArray} {c : Nat} (h : outB s c = true) : bitsOut (s, c) (fillBits c) = some (s, 8 * s.size) := by
  have hi := bytes_inv s c h
  have hf := fits_of_outB s c h
  obtain ⟨q1, q2, q3, q4⟩ := hf
  have hl : c + (fillBits c).length = 8 * s.size := by rw [fillBits_length]; omega
  rw [bitsOut_some h (by rw [hl]; omega), hl, show putB (numsOf s) c (fillBits c) = numsOf s from putB_fill hi, str_nums]
/-- A text behind whole bytes, as bits. -/
theorem text_bits {s t : ByteArray} {c : Nat} (h : outB s c = true) (h8 : c % 8 = 0) : bitsOut (s, c) (byteBits (numsOf t)) = if s.size + t.size ≤ 12000 then some (s ++ t, c + 8 * t.size) else none := by
  have hi := bytes_inv s c h
  have hf := fits_of_outB s c h
  obtain ⟨q1, q2, q3, q4⟩ := hf
  have hl : (byteBits (numsOf t)).length = 8 * t.size := by rw [byteBits_length, numsOf_length]
  by_cases hr : s.size + t.size ≤ 12000
  · rw [if_pos hr, bitsOut_some h (by rw [hl]; omega), hl, putB_bytes _ _ _ (by rw [numsOf_length]; omega) h8 (numsOf_allB t)]
    rw [str_two]
  · rw [if_neg hr, bitsOut_none (fun q => hr (by have := q.2; rw [hl] at this; omega))]

/-- Part by part. -/
theorem stored_parts {s : ByteArray} {c : Int} {t : ByteArray} {last : Bool} (h : t.size ≤ 2600) : storedOut s c t last = ((outSt s c).bind fun o => bitsOut o (headBits 0 last)).bind fun o => bitsOut o (storedBits o.2 t) := by
  unfold storedOut
  rw [if_pos h]
  cases outSt s c with
  | none => rfl
  | some o =>
    show bitsOut o (headBits 0 last ++ storedBits (o.2 + 3) t) = (bitsOut o (headBits 0 last)).bind fun o => bitsOut o (storedBits o.2 t)
    rw [bitsOut_append _ _ (headBits_01 0 last)]
    cases h1 : bitsOut o (headBits 0 last) with
    | none => rfl
    | some o1 =>
      have := (bitsOut_right h1 (headBits_01 0 last)).2.1
      rw [headBits_length] at this
      show bitsOut o1 _ = bitsOut o1 _
      rw [this]
/-- Both numbers, behind whole bytes. -/
def storedNums (s1 : ByteArray) (t : ByteArray) : Option (ByteArray × Nat) := (bitsOut (s1, 8 * s1.size) (pieceBits (t.size : Int) 16 false)).bind fun o => bitsOut o (pieceBits (65535 - (t.size : Int)) 16 false)
theorem stored_end {s1 t : ByteArray} {c1 : Nat} (h : outB s1 c1 = true) : bitsOut (s1, c1) (storedBits c1 t) = (storedNums s1 t).bind fun o => if o.1.size + t.size ≤ 12000 then some (o.1 ++ t, o.2 + 8 * t.size) else none := by
  unfold storedBits storedNums
  have hf := (bitsOut_right (fill_bits h) (fillBits_01 c1)).1
  rw [bitsOut_append _ _ (fillBits_01 c1), fill_bits h]
  show bitsOut (s1, 8 * s1.size) _ = _
  rw [bitsOut_append _ _ (pieceBits_01 _ _ _)]
  cases h2 : bitsOut (s1, 8 * s1.size) (pieceBits (t.size : Int) 16 false) with
  | none => rfl
  | some o2 =>
    have k2 := bitsOut_right h2 (pieceBits_01 _ _ _)
    show bitsOut o2 _ = (bitsOut o2 _).bind _
    rw [bitsOut_append _ _ (pieceBits_01 _ _ _)]
    cases h3 : bitsOut o2 (pieceBits (65535 - (t.size : Int)) 16 false) with
    | none => rfl
    | some o3 =>
      have k3 := bitsOut_right h3 (pieceBits_01 _ _ _)
      obtain ⟨s3, c3⟩ := o3
      have e2 := k2.2.1
      have e3 := k3.2.1
      rw [pieceBits_length] at e2 e3
      exact text_bits k3.1 (by simp only [] at e2 e3 ⊢; omega)

/-- What is told to the caller. -/
def blkAns : Option (ByteArray × Nat) → Value
  | some o => .tuple #[.agg #[.string o.1, .int .i64 (o.2 : Int)], .bool true]
  | none => .tuple #[.agg #[.string ⟨#[]⟩, .int .i64 0], .bool false]

theorem blkAns_form (o : Option (ByteArray × Nat)) : ∃ t n b, blkAns o = .tuple #[.agg #[.string t, .int .i64 n], .bool b] := by
  cases o with
  | none => exact ⟨_, _, _, rfl⟩
  | some o => exact ⟨_, _, _, rfl⟩
end Go.Proofs.YtbcnlggkoidmmabGreatDoor

namespace Go.Proofs.YtbcnlggkoidmmabGreatDoor
namespace CodeMath
open OutMath

/-- All lengths are in 0 .. 15. -/
def OkLens (f : Nat → Int) (n : Nat) : Prop := ∀ i, i < n → 0 ≤ f i ∧ f i ≤ 15
/-- To what the first k lengths are full. -/
def room (f : Nat → Int) : Nat → Int
  | 0 => 0
  | k + 1 => room f k + (if 0 < f k then p2 (15 - f k).toNat else 0)
/-- How many of the first k are not 0. -/
def cnt (f : Nat → Int) : Nat → Int
  | 0 => 0
  | k + 1 => cnt f k + (if 0 < f k then 1 else 0)
/-- How many of the first k are s. -/
def cntS (f : Nat → Int) (s : Int) : Nat → Int
  | 0 => 0
  | k + 1 => cntS f s k + (if f k = s then 1 else 0)
/-- The number behind the last code of length s. -/
def nx (f : Nat → Int) (n : Nat) : Nat → Int
  | 0 => 0
  | s + 1 => 2 * nx f n s + cntS f ((s + 1 : Nat) : Int) n
/-- The code of symbol i. -/
def codeOf (f : Nat → Int) (n i : Nat) : Int := if f i ≤ 0 then 0 else 2 * nx f n ((f i).toNat - 1) + cntS f (f i) i

theorem room_bd (f : Nat → Int) : ∀ k, 0 ≤ room f k ∧ (OkLens f k → room f k ≤ 16384 * k)
  | 0 => by simp [room]
  | k + 1 => by
    have h := room_bd f k
    have hp := p2_pos (15 - f k).toNat
    refine ⟨by unfold room; split <;> omega, fun ho => ?_⟩
    have h2 := h.2 (fun i hi => ho i (by omega))
    have h3 := ho k (by omega)
    have h4 : 0 < f k → p2 (15 - f k).toNat ≤ 16384 := fun hf => by
      have := p2_le (show (15 - f k).toNat ≤ 14 by omega)
      have e : p2 14 = 16384 := by decide +kernel
      omega
    unfold room
    split
    · have := h4 (by assumption); omega
    · omega
theorem cnt_bd (f : Nat → Int) : ∀ k : Nat, 0 ≤ cnt f k ∧ cnt f k ≤ k
  | 0 => by simp [cnt]
  | k + 1 => by have h := cnt_bd f k; unfold cnt; split <;> omega
theorem cntS_bd (f : Nat → Int) (s : Int) : ∀ k : Nat, 0 ≤ cntS f s k ∧ cntS f s k ≤ k
  | 0 => by simp [cntS]
  | k + 1 => by have h := cntS_bd f s k; unfold cntS; split <;> omega
theorem cntS_mono (f : Nat → Int) (s : Int) {a : Nat} : ∀ {b : Nat}, a ≤ b → cntS f s a ≤ cntS f s b
  | 0, h => by have : a = 0 := by omega
               subst this; omega
  | b + 1, h => by
    by_cases e : a = b + 1
    · subst e; omega
    · have := cntS_mono f s (show a ≤ b by omega)
      show cntS f s a ≤ cntS f s b + (if f b = s then 1 else 0)
      split <;> omega
theorem cntS_lt (f : Nat → Int) (s : Int) {i n : Nat} (h : i < n) (e : f i = s) : cntS f s i < cntS f s n := by
  have h1 := cntS_mono f s (show i + 1 ≤ n by omega)
  have h2 : cntS f s (i + 1) = cntS f s i + 1 := by
    show cntS f s i + (if f i = s then 1 else 0) = _
    rw [if_pos e]
  omega
theorem nx_bd (f : Nat → Int) (n : Nat) (hn : n ≤ 288) : ∀ s, 0 ≤ nx f n s ∧ nx f n s + 288 ≤ 288 * p2 s
  | 0 => by simp [nx, p2]
  | s + 1 => by
    have h := nx_bd f n hn s
    have hc := cntS_bd f ((s + 1 : Nat) : Int) n
    show 0 ≤ 2 * nx f n s + cntS f ((s + 1 : Nat) : Int) n ∧ 2 * nx f n s + cntS f ((s + 1 : Nat) : Int) n + 288 ≤ _
    rw [p2_succ]
    omega
theorem nx_lt (f : Nat → Int) (n : Nat) (hn : n ≤ 288) (s : Nat) (hs : s ≤ 15) : 0 ≤ nx f n s ∧ nx f n s ≤ 9437184 := by
  have h := nx_bd f n hn s
  have h2 := p2_le hs
  have e : p2 15 = 32768 := by decide +kernel
  omega

/-- The kind of n lengths that are right. -/
def kindOf (f : Nat → Int) (n : Nat) : Int :=
  if cnt f n = 0 then 1 else if room f n = 32768 then 2 else if 32768 < room f n then 5 else if cnt f n = 1 ∧ room f n = 16384 then 3 else 4

/-- What the lengths say: they are not right, or their kind. -/
def Kind (f : Nat → Int) (n : Nat) (k : Int) : Prop := (k = 0 ∧ ¬ (n ≤ 288 ∧ OkLens f n)) ∨ (n ≤ 288 ∧ OkLens f n ∧ k = kindOf f n)
theorem kindOf_bd (f : Nat → Int) (n : Nat) : 1 ≤ kindOf f n ∧ kindOf f n ≤ 5 := by
  unfold kindOf
  split
  · omega
  · split
    · omega
    · split
      · omega
      · split <;> omega
/-- What is written when lengths below s, and the first i of length s, are gone through. -/
def outAt (f : Nat → Int) (n : Nat) (s : Int) (i : Nat) : Nat → Int := fun j => if 0 < f j ∧ (f j < s ∨ f j = s ∧ j < i) then codeOf f n j else 0

theorem outAt_start (f : Nat → Int) (n j : Nat) : outAt f n 1 0 j = 0 := by
  unfold outAt
  rw [if_neg (by omega)]
theorem outAt_here (f : Nat → Int) (n : Nat) (t j : Nat) (ht : 1 ≤ t) (e : f j = (t : Int)) (i : Nat) : (if i = j then 2 * nx f n (t - 1) + cntS f (t : Int) j else outAt f n t j i) = outAt f n t (j + 1) i := by
  by_cases hij : i = j
  · subst hij
    rw [if_pos rfl]
    unfold outAt
    rw [if_pos (by omega)]
    unfold codeOf
    rw [if_neg (by omega), e, Int.toNat_natCast]
  · rw [if_neg hij]
    unfold outAt
    by_cases h : 0 < f i ∧ (f i < (t : Int) ∨ f i = (t : Int) ∧ i < j)
    · rw [if_pos h, if_pos (by omega)]
    · rw [if_neg h, if_neg (by omega)]
theorem outAt_skip (f : Nat → Int) (n : Nat) (t j : Nat) (e : ¬ f j = (t : Int)) (i : Nat) : outAt f n t j i = outAt f n t (j + 1) i := by
  unfold outAt
  by_cases h : 0 < f i ∧ (f i < (t : Int) ∨ f i = (t : Int) ∧ i < j)
  · rw [if_pos h, if_pos (by omega)]
  · rw [if_neg h, if_neg ?_]
    intro k
    by_cases hij : i = j
    · subst hij; omega
    · omega
theorem outAt_turn (f : Nat → Int) (n t i : Nat) (hi : i < n) : outAt f n t n i = outAt f n ((t + 1 : Nat) : Int) 0 i := by
  unfold outAt
  by_cases h : 0 < f i ∧ (f i < (t : Int) ∨ f i = (t : Int) ∧ i < n)
  · rw [if_pos h, if_pos (by omega)]
  · rw [if_neg h, if_neg (by omega)]
theorem outAt_end (f : Nat → Int) (n i : Nat) (h : f i ≤ 15) : outAt f n ((16 : Nat) : Int) 0 i = codeOf f n i := by
  unfold outAt
  by_cases k : 0 < f i
  · rw [if_pos (by omega)]
  · rw [if_neg (by omega)]
    unfold codeOf
    rw [if_pos (by omega)]
theorem nx_step (f : Nat → Int) (n t : Nat) (ht : 1 ≤ t) : 2 * nx f n (t - 1) + cntS f (t : Int) n = nx f n t := by
  obtain ⟨s, rfl⟩ : ∃ s, t = s + 1 := ⟨t - 1, by omega⟩
  rfl

/-- Lengths that have codes. -/
def Coded (f : Nat → Int) (n : Nat) : Prop := n ≤ 288 ∧ OkLens f n ∧ room f n ≤ 32768
theorem room_of_cnt (f : Nat → Int) : ∀ k, cnt f k = 0 → room f k = 0
  | 0, _ => rfl
  | k + 1, h => by
    have hb := cnt_bd f k
    have h' : cnt f k + (if 0 < f k then 1 else 0) = 0 := h
    by_cases hp : 0 < f k
    · rw [if_pos hp] at h'; omega
    · rw [if_neg hp] at h'
      show room f k + (if 0 < f k then p2 (15 - f k).toNat else 0) = 0
      rw [if_neg hp, room_of_cnt f k (by omega)]
      rfl
theorem kind_good {f : Nat → Int} {n : Nat} {k : Int} (h : Kind f n k) (hG : Coded f n) : k ≠ 0 ∧ k ≠ 5 := by
  obtain ⟨h1, h2, h3⟩ := hG
  rcases h with ⟨_, h⟩ | ⟨_, _, h⟩
  · exact absurd ⟨h1, h2⟩ h
  · have hb := kindOf_bd f n
    refine ⟨by omega, ?_⟩
    rw [h]
    unfold kindOf
    split
    · omega
    · split
      · omega
      · rw [if_neg (by omega)]
        split <;> omega
theorem kind_bad {f : Nat → Int} {n : Nat} {k : Int} (h : Kind f n k) (hB : ¬ Coded f n) : k = 0 ∨ k = 5 := by
  rcases h with ⟨h, _⟩ | ⟨h1, h2, h⟩
  · exact .inl h
  · right
    have hr : 32768 < room f n := by
      by_cases hq : 32768 < room f n
      · exact hq
      · exact absurd ⟨h1, h2, by omega⟩ hB
    have hc : ¬ cnt f n = 0 := fun e => by have := room_of_cnt f n e; omega
    rw [h]
    unfold kindOf
    rw [if_neg hc, if_neg (by omega), if_pos hr]

/-- The sum of count times length. -/
def cost (f c : Nat → Int) : Nat → Int
  | 0 => 0
  | k + 1 => cost f c k + c k * f k
end CodeMath
end Go.Proofs.YtbcnlggkoidmmabGreatDoor

namespace Go.Proofs.YtbcnlggkoidmmabGreatDoor
namespace HitMath
open OutMath CodeMath TakeMath

/-- The number whose bits, the highest first, are the k from bit a on. -/
def hi (s : ByteArray) (a : Nat) : Nat → Int
  | 0 => 0
  | k + 1 => 2 * hi s a k + bit s (a + k)
theorem p2_add (a b : Nat) : p2 (a + b) = p2 a * p2 b := by unfold p2; exact Int.pow_add 2 a b
theorem nx_ge (f : Nat → Int) (n t : Nat) : ∀ d, p2 d * nx f n t ≤ nx f n (t + d)
  | 0 => by rw [p2_zero]; simp
  | d + 1 => by
    have h := nx_ge f n t d
    have hc := cntS_bd f ((t + d + 1 : Nat) : Int) n
    have e : nx f n (t + (d + 1)) = 2 * nx f n (t + d) + cntS f ((t + d + 1 : Nat) : Int) n := rfl
    rw [e, p2_succ, Int.mul_assoc]
    omega
theorem code_in {f : Nat → Int} {n i k : Nat} (hi : i < n) (hk : 1 ≤ k) (e : f i = (k : Int)) : 2 * nx f n (k - 1) ≤ codeOf f n i ∧ codeOf f n i < nx f n k := by
  unfold codeOf
  rw [if_neg (by omega), e, Int.toNat_natCast, ← nx_step f n k hk]
  have h1 := cntS_bd f (k : Int) i
  have h2 := cntS_lt f (k : Int) hi e
  omega
/-- The room is the number behind the last code. -/
def part (s : Nat) (x : Int) : Int := if 1 ≤ x ∧ x ≤ (s : Int) then p2 (s - x.toNat) else 0
theorem nx_add (f : Nat → Int) (n : Nat) : ∀ s, nx f (n + 1) s = nx f n s + part s (f n)
  | 0 => by
    show (0 : Int) = 0 + part 0 (f n)
    unfold part
    rw [if_neg (by omega)]
    rfl
  | s + 1 => by
    show 2 * nx f (n + 1) s + (cntS f ((s + 1 : Nat) : Int) n + (if f n = ((s + 1 : Nat) : Int) then 1 else 0)) = 2 * nx f n s + cntS f ((s + 1 : Nat) : Int) n + part (s + 1) (f n)
    rw [nx_add f n s]
    unfold part
    by_cases h1 : 1 ≤ f n ∧ f n ≤ (s : Int)
    · rw [if_pos h1, if_neg (by omega), if_pos (by omega), show s + 1 - (f n).toNat = s - (f n).toNat + 1 by omega, p2_succ]
      omega
    · by_cases h2 : f n = ((s + 1 : Nat) : Int)
      · rw [if_neg h1, if_pos h2, if_pos (by omega), show s + 1 - (f n).toNat = 0 by omega, p2_zero]
        omega
      · rw [if_neg h1, if_neg h2, if_neg (by omega)]
        omega
theorem room_nx (f : Nat → Int) : ∀ n, OkLens f n → room f n = nx f n 15
  | 0, _ => by
    have e : ∀ s, nx f 0 s = 0 := by
      intro s
      induction s with
      | zero => rfl
      | succ s ih => show 2 * nx f 0 s + 0 = 0; omega
    rw [e]
    rfl
  | n + 1, h => by
    have hn := h n (by omega)
    rw [nx_add, ← room_nx f n (fun i hi => h i (by omega))]
    show room f n + (if 0 < f n then p2 (15 - f n).toNat else 0) = room f n + part 15 (f n)
    unfold part
    by_cases hp : 0 < f n
    · rw [if_pos hp, if_pos (by omega), show (15 - f n).toNat = 15 - (f n).toNat by omega]
    · rw [if_neg hp, if_neg (by omega)]
theorem nx_le {f : Nat → Int} {n : Nat} (h : Coded f n) (k : Nat) (hk : k ≤ 15) : nx f n k ≤ p2 k := by
  obtain ⟨_, h2, h3⟩ := h
  rw [room_nx f n h2] at h3
  have h4 := nx_ge f n k (15 - k)
  rw [show k + (15 - k) = 15 by omega] at h4
  have e : p2 15 = p2 (15 - k) * p2 k := by rw [← p2_add, show 15 - k + k = 15 by omega]
  have e2 : p2 15 = 32768 := by decide +kernel
  have hp := p2_pos (15 - k)
  exact Int.le_of_mul_le_mul_left (by omega) (show 0 < p2 (15 - k) by omega)
theorem code_lt {f : Nat → Int} {n i : Nat} (h : Coded f n) (hi : i < n) : 0 ≤ codeOf f n i ∧ codeOf f n i < p2 (f i).toNat := by
  have hok := h.2.1 i hi
  by_cases hp : 0 < f i
  · have h1 := code_in hi (show 1 ≤ (f i).toNat by omega) (show f i = ((f i).toNat : Int) by omega)
    have h2 := nx_le h (f i).toNat (by omega)
    have h3 := (nx_bd f n h.1 ((f i).toNat - 1)).1
    omega
  · unfold codeOf
    rw [if_pos (by omega)]
    have := p2_pos (f i).toNat
    omega

end HitMath
open OutMath CodeMath TakeMath HitMath

end Go.Proofs.YtbcnlggkoidmmabGreatDoor

namespace Go.Proofs.YtbcnlggkoidmmabGreatDoor.RunsMath

/-- How often x stands from place i on, at most so many times. -/
def sameN (f : Nat → Int) (n : Nat) (x : Int) : Nat → Nat → Nat
  | 0, _ => 0
  | m + 1, i => if i < n ∧ f i = x then 1 + sameN f n x m (i + 1) else 0
theorem same_le (f : Nat → Int) (n : Nat) (x : Int) : ∀ m i, sameN f n x m i ≤ m
  | 0, _ => Nat.le_refl _
  | m + 1, i => by
    have := same_le f n x m (i + 1)
    unfold sameN
    split <;> omega
theorem same_in (f : Nat → Int) (n : Nat) (x : Int) : ∀ m i, i ≤ n → i + sameN f n x m i ≤ n
  | 0, i, h => h
  | m + 1, i, h => by
    unfold sameN
    split
    · rename_i q
      have := same_in f n x m (i + 1) (by omega)
      omega
    · omega
/-- It is told by that. -/
theorem same_told {f : Nat → Int} {n : Nat} {x : Int} : ∀ {m i k : Nat}, k ≤ m → i + k ≤ n → (∀ j, j < k → f (i + j) = x) → (k = m ∨ i + k = n ∨ f (i + k) ≠ x) → sameN f n x m i = k
  | 0, i, k, h1, _, _, _ => by
    obtain rfl : k = 0 := by omega
    rfl
  | m + 1, i, k, h1, h2, h3, h4 => by
    unfold sameN
    cases k with
    | zero =>
      rw [if_neg]
      rintro ⟨q1, q2⟩
      rcases h4 with h | h | h
      · omega
      · omega
      · exact h q2
    | succ k =>
      rw [if_pos ⟨by omega, h3 0 (by omega)⟩]
      have := same_told (f := f) (n := n) (x := x) (m := m) (i := i + 1) (k := k) (by omega) (by omega) (fun j hj => by rw [show i + 1 + j = i + (j + 1) by omega]; exact h3 (j + 1) (by omega)) (by
        rcases h4 with h | h | h
        · exact .inl (by omega)
        · exact .inr (.inl (by omega))
        · exact .inr (.inr (by rw [show i + 1 + k = i + (k + 1) by omega]; exact h)))
      omega

def zerosAt (f : Nat → Int) (n i : Nat) : Nat := sameN f n 0 138 i
def sameAt (f : Nat → Int) (n i : Nat) : Nat := if i = 0 then 0 else sameN f n (f (i - 1)) 6 i
/-- The Run at place i, and how many lengths it tells. -/
def runAt (f : Nat → Int) (n i : Nat) : (Int × Int) × Nat :=
  if 11 ≤ zerosAt f n i then ((18, (zerosAt f n i : Int) - 11), zerosAt f n i)
  else if 3 ≤ zerosAt f n i then ((17, (zerosAt f n i : Int) - 3), zerosAt f n i)
  else if 3 ≤ sameAt f n i then ((16, (sameAt f n i : Int) - 3), sameAt f n i)
  else ((f i, 0), 1)
theorem zeros_le (f : Nat → Int) (n i : Nat) : zerosAt f n i ≤ 138 := same_le _ _ _ _ _
theorem sameAt_le (f : Nat → Int) (n i : Nat) : sameAt f n i ≤ 6 := by
  unfold sameAt
  split
  · omega
  · exact same_le _ _ _ _ _
theorem runAt_pos (f : Nat → Int) (n i : Nat) : 1 ≤ (runAt f n i).2 := by
  unfold runAt
  split
  · show 1 ≤ zerosAt f n i; omega
  · split
    · show 1 ≤ zerosAt f n i; omega
    · split
      · show 1 ≤ sameAt f n i; omega
      · exact Nat.le_refl _
theorem sameAt_in {f : Nat → Int} {n i : Nat} (h : i ≤ n) : i + sameAt f n i ≤ n := by
  unfold sameAt
  split
  · omega
  · exact same_in _ _ _ _ _ h
theorem runAt_in {f : Nat → Int} {n i : Nat} (h : i < n) : i + (runAt f n i).2 ≤ n := by
  have h1 : i + zerosAt f n i ≤ n := same_in f n 0 138 i (by omega)
  have h2 := sameAt_in (f := f) (show i ≤ n by omega)
  unfold runAt
  split
  · exact h1
  · split
    · exact h1
    · split
      · exact h2
      · exact h
/-- The Runs from place i on. -/
def rest (f : Nat → Int) (n : Nat) (i : Nat) : List (Int × Int) :=
  if i < n then (runAt f n i).1 :: rest f n (i + max 1 (runAt f n i).2) else []
termination_by n - i
decreasing_by omega
theorem rest_more {f : Nat → Int} {n i : Nat} (h : i < n) : rest f n i = (runAt f n i).1 :: rest f n (i + (runAt f n i).2) := by
  rw [rest, if_pos h, Nat.max_eq_right (runAt_pos f n i)]
theorem rest_none {f : Nat → Int} {n i : Nat} (h : ¬ i < n) : rest f n i = [] := by rw [rest, if_neg h]
theorem rest_length (f : Nat → Int) (n : Nat) : ∀ d i, n - i = d → (rest f n i).length ≤ n - i := by
  intro d
  induction d using Nat.strongRecOn with
  | _ d ih =>
    intro i hd
    by_cases h : i < n
    · rw [rest_more h, List.length_cons]
      have h1 := runAt_pos f n i
      have h2 := ih (n - (i + (runAt f n i).2)) (by omega) (i + (runAt f n i).2) rfl
      omega
    · rw [rest_none h]
      exact Nat.zero_le _
/-- Of a symbol how many extra bits it has. -/
def bitsOf (s : Int) : Nat := if s = 16 then 2 else if s = 17 then 3 else if s = 18 then 7 else 0
def Fine (f : Nat → Int) (n : Nat) : Prop := ∀ i, i < n → 0 ≤ f i ∧ f i ≤ 15
theorem runAt_fine {f : Nat → Int} {n i : Nat} (hf : Fine f n) (hi : i < n) : 0 ≤ (runAt f n i).1.2 ∧ (runAt f n i).1.2 < 2 ^ bitsOf (runAt f n i).1.1 := by
  have h1 := zeros_le f n i
  have h2 := sameAt_le f n i
  have h3 := hf i hi
  unfold runAt
  split
  · show 0 ≤ (zerosAt f n i : Int) - 11 ∧ (zerosAt f n i : Int) - 11 < 2 ^ 7
    omega
  · split
    · show 0 ≤ (zerosAt f n i : Int) - 3 ∧ (zerosAt f n i : Int) - 3 < 2 ^ 3
      omega
    · split
      · show 0 ≤ (sameAt f n i : Int) - 3 ∧ (sameAt f n i : Int) - 3 < 2 ^ 2
        omega
      · show (0 : Int) ≤ 0 ∧ (0 : Int) < 2 ^ bitsOf (f i)
        have : bitsOf (f i) = 0 := by unfold bitsOf; rw [if_neg (by omega), if_neg (by omega), if_neg (by omega)]
        rw [this]
        omega
theorem rest_fine {f : Nat → Int} {n : Nat} (hf : Fine f n) : ∀ d i, n - i = d → ∀ r ∈ rest f n i, 0 ≤ r.2 ∧ r.2 < 2 ^ bitsOf r.1 := by
  intro d
  induction d using Nat.strongRecOn with
  | _ d ih =>
    intro i hd r hr
    by_cases h : i < n
    · rw [rest_more h] at hr
      rcases List.mem_cons.mp hr with rfl | hr
      · exact runAt_fine hf h
      · have h1 := runAt_pos f n i
        exact ih (n - (i + (runAt f n i).2)) (by omega) (i + (runAt f n i).2) rfl r hr
    · rw [rest_none h] at hr
      cases hr

/-! The way back. -/
/-- What a Run tells behind some lengths. -/
def tell (out : List Int) (r : Int × Int) : Option (List Int) :=
  if r.1 = 16 then (if 0 ≤ r.2 ∧ r.2 ≤ 3 ∧ 0 < out.length then some (List.replicate (3 + r.2).toNat (out.getD (out.length - 1) 0)) else none)
  else if r.1 = 17 then (if 0 ≤ r.2 ∧ r.2 ≤ 7 then some (List.replicate (3 + r.2).toNat 0) else none)
  else if r.1 = 18 then (if 0 ≤ r.2 ∧ r.2 ≤ 127 then some (List.replicate (11 + r.2).toNat 0) else none)
  else if 0 ≤ r.1 ∧ r.1 ≤ 15 ∧ r.2 = 0 then some [r.1] else none
/-- What Runs tell, of so many lengths. -/
def back (z : Nat) (out : List Int) : List (Int × Int) → Option (List Int)
  | [] => if out.length = z then some out else none
  | r :: R => match tell out r with
    | none => none
    | some more => if out.length + more.length ≤ z then back z (out ++ more) R else none
end Go.Proofs.YtbcnlggkoidmmabGreatDoor.RunsMath
