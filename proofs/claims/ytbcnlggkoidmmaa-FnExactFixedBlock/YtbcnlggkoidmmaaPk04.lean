/-
  Blocks as bits: an Out under way, and bits that come behind it, all at once or part by part; the fill to a whole byte; whole bytes. Nothing here speaks of the program.
  What a block is to be, in bits, and what is told to the caller. Nothing here speaks of the program.
-/
import Derived.Test.YtbcnlggkoidmmaaPk01
import Derived.Test.YtbcnlggkoidmmaaPk02
import Derived.Test.YtbcnlggkoidmmaaPk03
import Derived.WalkKit
namespace Go.Proofs.Ytbcnlggkoidmmaa
namespace BlockMath
open OutMath PutMath BitsMath

/-- A text's bytes, as numbers. -/
def numsOf (s : ByteArray) : List Int := s.data.toList.map fun b => (b.toNat : Int)
theorem numsOf_length (s : ByteArray) : (numsOf s).length = s.size := by simp [numsOf]
theorem numsOf_allB (s : ByteArray) : AllB (numsOf s) := fun i => by
  unfold numsOf
  rw [List.getD_eq_getElem?_getD, List.getElem?_map]
  cases h : s.data.toList[i]? with
  | none => simp
  | some y =>
    have := UInt8.toNat_lt y
    simp only [Option.map_some, Option.getD_some]
    omega

theorem puts_congr {xs : List Int} {c : Nat} {f g : Nat → Int} : ∀ k, (∀ i, i < k → f i = g i) → puts xs c f k = puts xs c g k
  | 0, _ => rfl
  | k + 1, h => by
    show bstep _ _ _ = bstep _ _ _
    rw [puts_congr k (fun i hi => h i (by omega)), h k (by omega)]
theorem puts_add (xs : List Int) (c : Nat) (f : Nat → Int) (m : Nat) : ∀ k, puts xs c f (m + k) = puts (puts xs c f m) (c + m) (fun i => f (m + i)) k
  | 0 => rfl
  | k + 1 => by
    show bstep (puts xs c f (m + k)) (c + (m + k)) (f (m + k)) = bstep _ (c + m + k) (f (m + k))
    rw [puts_add xs c f m k, Nat.add_assoc]

/-- The bytes when bits come behind the first c. -/
def putB (xs : List Int) (c : Nat) (bs : List Int) : List Int := puts xs c (fun i => bs.getD i 0) bs.length
def Bits01 (bs : List Int) : Prop := ∀ i, 0 ≤ bs.getD i 0 ∧ bs.getD i 0 ≤ 1
theorem Bits01.append {a b : List Int} (ha : Bits01 a) (hb : Bits01 b) : Bits01 (a ++ b) := fun i => by
  rw [List.getD_eq_getElem?_getD]
  by_cases h : i < a.length
  · rw [List.getElem?_append_left h, ← List.getD_eq_getElem?_getD]
    exact ha i
  · rw [List.getElem?_append_right (by omega), ← List.getD_eq_getElem?_getD]
    exact hb _
theorem putB_append (xs : List Int) (c : Nat) (a b : List Int) : putB xs c (a ++ b) = putB (putB xs c a) (c + a.length) b := by
  unfold putB
  rw [List.length_append, puts_add]
  have e1 : puts xs c (fun i => (a ++ b).getD i 0) a.length = puts xs c (fun i => a.getD i 0) a.length := puts_congr _ fun i hi => by
    show (a ++ b).getD i 0 = a.getD i 0
    rw [List.getD_eq_getElem?_getD, List.getElem?_append_left hi, ← List.getD_eq_getElem?_getD]
  rw [e1]
  refine puts_congr _ fun i _ => ?_
  show (a ++ b).getD (a.length + i) 0 = b.getD i 0
  rw [List.getD_eq_getElem?_getD, List.getElem?_append_right (by omega), ← List.getD_eq_getElem?_getD, Nat.add_sub_cancel_left]
theorem putB_inv {xs : List Int} {c : Nat} {bs : List Int} (h : Inv xs c) (h01 : Bits01 bs) : Inv (putB xs c bs) (c + bs.length) := inv_puts h h01 _
theorem putB_allB {xs : List Int} {c : Nat} {bs : List Int} (h : Inv xs c) (ha : AllB xs) (h01 : Bits01 bs) : AllB (putB xs c bs) := allB_puts h ha h01 _

/-- An Out with bits behind it: none where the Out isn't right, or they become too many. -/
def bitsOut (o : ByteArray × Nat) (bs : List Int) : Option (ByteArray × Nat) :=
  if outB o.1 o.2 = true ∧ o.2 + bs.length ≤ 96000 then some (strOfNums (putB (numsOf o.1) o.2 bs), o.2 + bs.length) else none
theorem bitsOut_some {s : ByteArray} {c : Nat} {bs : List Int} (h : outB s c = true) (hc : c + bs.length ≤ 96000) : bitsOut (s, c) bs = some (strOfNums (putB (numsOf s) c bs), c + bs.length) := if_pos ⟨h, hc⟩
theorem bitsOut_none {s : ByteArray} {c : Nat} {bs : List Int} (h : ¬ (outB s c = true ∧ c + bs.length ≤ 96000)) : bitsOut (s, c) bs = none := if_neg h
/-- What comes out is a right Out again, and its bytes are those numbers. -/
theorem bitsOut_right {o o' : ByteArray × Nat} {bs : List Int} (h : bitsOut o bs = some o') (h01 : Bits01 bs) : outB o'.1 o'.2 = true ∧ o'.2 = o.2 + bs.length ∧ o'.2 ≤ 96000 ∧ numsOf o'.1 = putB (numsOf o.1) o.2 bs ∧ o'.1 = strOfNums (putB (numsOf o.1) o.2 bs) ∧ outB o.1 o.2 = true := by
  unfold bitsOut at h
  split at h
  · rename_i hh
    cases h
    have hi := bytes_inv o.1 o.2 hh.1
    have hA := putB_allB hi (numsOf_allB o.1) h01
    exact ⟨outB_of_inv (putB_inv hi h01) hA hh.2, rfl, hh.2, nums_back hA, rfl, hh.1⟩
  · cases h
/-- Part by part, or all at once. -/
theorem bitsOut_append (o : ByteArray × Nat) {a : List Int} (b : List Int) (h01 : Bits01 a) : bitsOut o (a ++ b) = (bitsOut o a).bind fun o' => bitsOut o' b := by
  cases h : bitsOut o a with
  | none =>
    show bitsOut o (a ++ b) = none
    unfold bitsOut at h ⊢
    split at h
    · cases h
    · rename_i hh
      refine if_neg fun hc => hh ⟨hc.1, ?_⟩
      have := hc.2
      rw [List.length_append] at this
      omega
  | some o' =>
    obtain ⟨h1, h2, h3, h4, h5, h6⟩ := bitsOut_right h h01
    show bitsOut o (a ++ b) = bitsOut o' b
    unfold bitsOut
    rw [h4, h2, ← putB_append, List.length_append]
    by_cases hc : o.2 + (a.length + b.length) ≤ 96000
    · rw [if_pos ⟨h6, hc⟩, if_pos ⟨h2 ▸ h1, by omega⟩, Nat.add_assoc]
    · rw [if_neg (fun q => hc q.2), if_neg (fun q => hc (by have := q.2; omega))]
theorem bitsOut_nil {s : ByteArray} {c : Nat} (h : outB s c = true) : ∃ t, bitsOut (s, c) [] = some (t, c) ∧ numsOf t = numsOf s := by
  have hf := fits_of_outB s c h
  have hb : bitsOut (s, c) [] = some (strOfNums (numsOf s), c) := bitsOut_some h (by simp only [List.length_nil]; have := hf.2.2.1; have := hf.1; omega)
  exact ⟨_, hb, nums_back (numsOf_allB s)⟩

/-- A number's bits, the lowest first, or the highest first. -/
def pieceBits (x : Int) (n : Nat) (high : Bool) : List Int := (List.range n).map fun k => bitOf x (if high then n - 1 - k else k)
theorem pieceBits_length (x : Int) (n : Nat) (high : Bool) : (pieceBits x n high).length = n := by simp [pieceBits]
theorem pieceBits_getD (x : Int) (n : Nat) (high : Bool) {k : Nat} (h : k < n) : (pieceBits x n high).getD k 0 = bitOf x (if high then n - 1 - k else k) := by
  unfold pieceBits
  rw [List.getD_eq_getElem?_getD, List.getElem?_map, List.getElem?_range h]
  rfl
theorem pieceBits_01 (x : Int) (n : Nat) (high : Bool) : Bits01 (pieceBits x n high) := fun i => by
  by_cases h : i < n
  · rw [pieceBits_getD x n high h]
    exact bitOf_01 _ _
  · rw [List.getD_eq_getElem?_getD, List.getElem?_eq_none (by rw [pieceBits_length]; omega)]
    simp
/-- What PutBits and PutCode tell, in these words. -/
theorem putOut_low (s : ByteArray) (c : Nat) (x : Int) (n : Nat) : putOut s c x (fun j => j) n = strOfNums (putB (numsOf s) c (pieceBits x n false)) := by
  unfold putOut putB numsOf
  rw [pieceBits_length]
  congr 1
  exact puts_congr n fun i hi => (pieceBits_getD x n false hi).symm
theorem putOut_high (s : ByteArray) (c : Nat) (x : Int) (n : Nat) : putOut s c x (fun j => n - 1 - j) n = strOfNums (putB (numsOf s) c (pieceBits x n true)) := by
  unfold putOut putB numsOf
  rw [pieceBits_length]
  congr 1
  exact puts_congr n fun i hi => (pieceBits_getD x n true hi).symm

/-- As many bits of 0 as fill the last byte change no byte. -/
theorem puts_fill {xs : List Int} {c : Nat} (h : Inv xs c) : ∀ j, j ≤ (8 - c % 8) % 8 → puts xs c (fun _ => 0) j = xs
  | 0, _ => rfl
  | j + 1, hj => by
    show bstep (puts xs c (fun _ => 0) j) (c + j) 0 = xs
    rw [puts_fill h j (by omega)]
    unfold bstep
    have hp : pre xs (c + j) = xs := if_neg (by omega)
    rw [hp, Int.zero_mul, Int.add_zero]
    have hl : (c + j) / 8 < xs.length := by rw [h.1]; omega
    rw [List.getD_eq_getElem?_getD, List.getElem?_eq_getElem hl]
    exact List.set_getElem_self hl
def fillBits (c : Nat) : List Int := List.replicate ((8 - c % 8) % 8) 0
theorem fillBits_length (c : Nat) : (fillBits c).length = (8 - c % 8) % 8 := by simp [fillBits]
theorem zeros_getD (n i : Nat) : (List.replicate n (0 : Int)).getD i 0 = 0 := by
  rw [List.getD_eq_getElem?_getD, List.getElem?_replicate]
  split <;> rfl
theorem fillBits_01 (c : Nat) : Bits01 (fillBits c) := fun i => by
  unfold fillBits
  rw [zeros_getD]
  omega
theorem putB_fill {xs : List Int} {c : Nat} (h : Inv xs c) : putB xs c (fillBits c) = xs := by
  unfold putB
  rw [fillBits_length, puts_congr (g := fun _ => 0) _ (fun i _ => by unfold fillBits; exact zeros_getD _ _)]
  exact puts_fill h _ (Nat.le_refl _)

/-- Whole bytes behind whole bytes. -/
def byteBits : List Int → List Int
  | [] => []
  | y :: ys => pieceBits y 8 false ++ byteBits ys
theorem byteBits_length : ∀ ys : List Int, (byteBits ys).length = 8 * ys.length
  | [] => rfl
  | y :: ys => by
    show (pieceBits y 8 false ++ byteBits ys).length = _
    rw [List.length_append, pieceBits_length, byteBits_length ys, List.length_cons]
    omega
theorem byteBits_01 : ∀ ys : List Int, Bits01 (byteBits ys)
  | [] => fun i => by rw [show (byteBits []) = [] from rfl]; simp
  | y :: ys => (pieceBits_01 y 8 false).append (byteBits_01 ys)
theorem puts_byte {xs : List Int} {c : Nat} (h : xs.length = c / 8) (hc : c % 8 = 0) (y : Int) : ∀ k, k < 8 → puts xs c (fun i => bitOf y i) (k + 1) = xs ++ [y % p2 (k + 1)]
  | 0, _ => by
    show bstep xs c (bitOf y 0) = _
    unfold bstep
    have hp : pre xs c = xs ++ [0] := if_pos hc
    rw [hp, hc, List.getD_eq_getElem?_getD, List.getElem?_append_right (by omega), h, Nat.sub_self, List.set_append_right _ _ (by omega), h, Nat.sub_self]
    simp only [List.getElem?_cons_zero, Option.getD_some, List.set_cons_zero, bitOf, p2_zero, Nat.zero_add]
    rw [show p2 1 = 2 by simp [p2]]
    simp
  | k + 1, hk => by
    show bstep (puts xs c (fun i => bitOf y i) (k + 1)) (c + (k + 1)) (bitOf y (k + 1)) = _
    rw [puts_byte h hc y k (by omega)]
    unfold bstep
    have hp : pre (xs ++ [y % p2 (k + 1)]) (c + (k + 1)) = xs ++ [y % p2 (k + 1)] := if_neg (by omega)
    have hd : (c + (k + 1)) / 8 = xs.length := by omega
    rw [hp, hd, List.getD_eq_getElem?_getD, List.getElem?_append_right (Nat.le_refl _), Nat.sub_self, List.set_append_right _ _ (Nat.le_refl _), Nat.sub_self, show (c + (k + 1)) % 8 = k + 1 by omega]
    simp only [List.getElem?_cons_zero, Option.getD_some, List.set_cons_zero]
    rw [p2_succ (k + 1), mod_split y (p2 (k + 1)) (p2_pos _)]
    rfl
theorem putB_bytes : ∀ (ys : List Int) (xs : List Int) (c : Nat), xs.length = c / 8 → c % 8 = 0 → AllB ys → putB xs c (byteBits ys) = xs ++ ys
  | [], xs, c, _, _, _ => by rw [List.append_nil]; rfl
  | y :: ys, xs, c, h, hc, ha => by
    show putB xs c (pieceBits y 8 false ++ byteBits ys) = _
    have hy := ha 0
    simp only [List.getD_cons_zero] at hy
    have e1 : putB xs c (pieceBits y 8 false) = xs ++ [y] := by
      unfold putB
      rw [pieceBits_length, puts_congr (g := fun i => bitOf y i) 8 (fun i hi => pieceBits_getD y 8 false hi), puts_byte h hc y 7 (by omega), show p2 (7 + 1) = 256 by simp [p2], Int.emod_eq_of_lt hy.1 hy.2]
    rw [putB_append, e1, pieceBits_length, putB_bytes ys (xs ++ [y]) (c + 8) (by rw [List.length_append, List.length_singleton]; omega) (by omega) (fun i => by have := ha (i + 1); rwa [List.getD_cons_succ] at this), List.append_assoc]
    rfl
end BlockMath
end Go.Proofs.Ytbcnlggkoidmmaa

namespace Go.Proofs.Ytbcnlggkoidmmaa
open Go.RowKit OutMath PutMath BitsMath BlockMath

/-- An Out as what is told by it. -/
def outSt (s : ByteArray) (c : Int) : Option (ByteArray × Nat) := if outB s c = true then some (s, c.toNat) else none
theorem outSt_isNone (s : ByteArray) (c : Int) : (outSt s c).isNone = !outB s c := by
  unfold outSt
  cases outB s c <;> rfl
/-- A block's three first bits. -/
def headBits (kind : Nat) (last : Bool) : List Int := pieceBits (if last then 1 else 0) 1 false ++ pieceBits (kind : Int) 2 false
theorem headBits_01 (kind : Nat) (last : Bool) : Bits01 (headBits kind last) := (pieceBits_01 _ _ _).append (pieceBits_01 _ _ _)
theorem headBits_length (kind : Nat) (last : Bool) : (headBits kind last).length = 3 := by
  unfold headBits
  rw [List.length_append, pieceBits_length, pieceBits_length]
/-- What is put behind what was put. -/
theorem bind_bits (st : Option (ByteArray × Nat)) {a : List Int} (b : List Int) (h : Bits01 a) : ((st.bind fun o => bitsOut o a).bind fun o => bitsOut o b) = st.bind fun o => bitsOut o (a ++ b) := by
  cases st with
  | none => rfl
  | some o => exact (bitsOut_append o b h).symm

/-- The bits of a block of type 0 behind the first three: the fill, both numbers, the text. -/
def storedBits (c : Nat) (t : ByteArray) : List Int := fillBits c ++ (pieceBits (t.size : Int) 16 false ++ (pieceBits (65535 - (t.size : Int)) 16 false ++ byteBits (numsOf t)))
/-- What StoredBlock comes to. -/
def storedOut (s : ByteArray) (c : Int) (t : ByteArray) (last : Bool) : Option (ByteArray × Nat) :=
  if t.size ≤ 2600 then (outSt s c).bind fun o => bitsOut o (headBits 0 last ++ storedBits (o.2 + 3) t) else none

theorem byte_back : ((fun n : Int => UInt8.ofNat n.toNat) ∘ fun b : UInt8 => (b.toNat : Int)) = id := by
  funext b
  simp
theorem str_nums (s : ByteArray) : strOfNums (numsOf s) = s := by
  obtain ⟨d⟩ := s
  simp [strOfNums, numsOf, byte_back]
theorem str_two (s t : ByteArray) : strOfNums (numsOf s ++ numsOf t) = s ++ t := by
  have h : (s ++ t).data = s.data ++ t.data := ByteArray.data_append
  have e : strOfNums (numsOf s ++ numsOf t) = ⟨s.data ++ t.data⟩ := by
    simp [strOfNums, numsOf, byte_back]
  rw [e, ← h]
/-- FillByte, as bits. -/
theorem fill_bits {s : ByteArray} {c : Nat} (h : outB s c = true) : bitsOut (s, c) (fillBits c) = some (s, 8 * s.size) := by
  have hi := bytes_inv s c h
  have hf := fits_of_outB s c h
  obtain ⟨q1, q2, q3, q4⟩ := hf
  have hl : c + (fillBits c).length = 8 * s.size := by rw [fillBits_length]; omega
  rw [bitsOut_some h (by rw [hl]; omega), hl, show putB (numsOf s) c (fillBits c) = numsOf s from putB_fill hi, str_nums]
/-- A text behind whole bytes, as bits. -/
theorem text_bits {s t : ByteArray} {c : Nat} (h : outB s c = true) (h8 : c % 8 = 0) : bitsOut (s, c) (byteBits (numsOf t)) = if s.size + t.size ≤ 12000 then some (s ++ t, c + 8 * t.size) else none := by
  have hi := bytes_inv s c h
  have hf := fits_of_outB s c h
  obtain ⟨q1, q2, q3, q4⟩ := hf
  have hl : (byteBits (numsOf t)).length = 8 * t.size := by rw [byteBits_length, numsOf_length]
  by_cases hr : s.size + t.size ≤ 12000
  · rw [if_pos hr, bitsOut_some h (by rw [hl]; omega), hl, putB_bytes _ _ _ (by rw [numsOf_length]; omega) h8 (numsOf_allB t)]
    rw [str_two]
  · rw [if_neg hr, bitsOut_none (fun q => hr (by have := q.2; rw [hl] at this; omega))]

/-- Part by part. -/
theorem stored_parts {s : ByteArray} {c : Int} {t : ByteArray} {last : Bool} (h : t.size ≤ 2600) : storedOut s c t last = ((outSt s c).bind fun o => bitsOut o (headBits 0 last)).bind fun o => bitsOut o (storedBits o.2 t) := by
  unfold storedOut
  rw [if_pos h]
  cases outSt s c with
  | none => rfl
  | some o =>
    show bitsOut o (headBits 0 last ++ storedBits (o.2 + 3) t) = (bitsOut o (headBits 0 last)).bind fun o => bitsOut o (storedBits o.2 t)
    rw [bitsOut_append _ _ (headBits_01 0 last)]
    cases h1 : bitsOut o (headBits 0 last) with
    | none => rfl
    | some o1 =>
      have := (bitsOut_right h1 (headBits_01 0 last)).2.1
      rw [headBits_length] at this
      show bitsOut o1 _ = bitsOut o1 _
      rw [this]
/-- Both numbers, behind whole bytes. -/
def storedNums (s1 : ByteArray) (t : ByteArray) : Option (ByteArray × Nat) := (bitsOut (s1, 8 * s1.size) (pieceBits (t.size : Int) 16 false)).bind fun o => bitsOut o (pieceBits (65535 - (t.size : Int)) 16 false)
theorem stored_end {s1 t : ByteArray} {c1 : Nat} (h : outB s1 c1 = true) : bitsOut (s1, c1) (storedBits c1 t) = (storedNums s1 t).bind fun o => if o.1.size + t.size ≤ 12000 then some (o.1 ++ t, o.2 + 8 * t.size) else none := by
  unfold storedBits storedNums
  have hf := (bitsOut_right (fill_bits h) (fillBits_01 c1)).1
  rw [bitsOut_append _ _ (fillBits_01 c1), fill_bits h]
  show bitsOut (s1, 8 * s1.size) _ = _
  rw [bitsOut_append _ _ (pieceBits_01 _ _ _)]
  cases h2 : bitsOut (s1, 8 * s1.size) (pieceBits (t.size : Int) 16 false) with
  | none => rfl
  | some o2 =>
    have k2 := bitsOut_right h2 (pieceBits_01 _ _ _)
    show bitsOut o2 _ = (bitsOut o2 _).bind _
    rw [bitsOut_append _ _ (pieceBits_01 _ _ _)]
    cases h3 : bitsOut o2 (pieceBits (65535 - (t.size : Int)) 16 false) with
    | none => rfl
    | some o3 =>
      have k3 := bitsOut_right h3 (pieceBits_01 _ _ _)
      obtain ⟨s3, c3⟩ := o3
      have e2 := k2.2.1
      have e3 := k3.2.1
      rw [pieceBits_length] at e2 e3
      exact text_bits k3.1 (by simp only [] at e2 e3 ⊢; omega)

/-- What is told to the caller. -/
def blkAns : Option (ByteArray × Nat) → Value
  | some o => .tuple #[.agg #[.string o.1, .int .i64 (o.2 : Int)], .bool true]
  | none => .tuple #[.agg #[.string ⟨#[]⟩, .int .i64 0], .bool false]

theorem blkAns_form (o : Option (ByteArray × Nat)) : ∃ t n b, blkAns o = .tuple #[.agg #[.string t, .int .i64 n], .bool b] := by
  cases o with
  | none => exact ⟨_, _, _, rfl⟩
  | some o => exact ⟨_, _, _, rfl⟩
end Go.Proofs.Ytbcnlggkoidmmaa
