/-
  What a block is to be, in bits, and what is told to the caller. Nothing here speaks of the program.
-/
import Derived.Test.YtbcnlggkoidmmaaOutMath
import Derived.Test.YtbcnlggkoidmmaaPutMath
import Derived.Test.YtbcnlggkoidmmaaPutLib
import Derived.Test.YtbcnlggkoidmmaaBitsMath
import Derived.Test.YtbcnlggkoidmmaaBlockMath
import Derived.WalkKit
namespace Go.Proofs.Ytbcnlggkoidmmaa
open Go.RowKit OutMath PutMath BitsMath BlockMath

/-- An Out as what is told by it. -/
def outSt (s : ByteArray) (c : Int) : Option (ByteArray × Nat) := if outB s c = true then some (s, c.toNat) else none
theorem outSt_isNone (s : ByteArray) (c : Int) : (outSt s c).isNone = !outB s c := by
  unfold outSt
  cases outB s c <;> rfl
/-- A block's three first bits. -/
def headBits (kind : Nat) (last : Bool) : List Int := pieceBits (if last then 1 else 0) 1 false ++ pieceBits (kind : Int) 2 false
theorem headBits_01 (kind : Nat) (last : Bool) : Bits01 (headBits kind last) := (pieceBits_01 _ _ _).append (pieceBits_01 _ _ _)
theorem headBits_length (kind : Nat) (last : Bool) : (headBits kind last).length = 3 := by
  unfold headBits
  rw [List.length_append, pieceBits_length, pieceBits_length]
/-- What is put behind what was put. -/
theorem bind_bits (st : Option (ByteArray × Nat)) {a : List Int} (b : List Int) (h : Bits01 a) : ((st.bind fun o => bitsOut o a).bind fun o => bitsOut o b) = st.bind fun o => bitsOut o (a ++ b) := by
  cases st with
  | none => rfl
  | some o => exact (bitsOut_append o b h).symm

/-- The bits of a block of type 0 behind the first three: the fill, both numbers, the text. -/
def storedBits (c : Nat) (t : ByteArray) : List Int := fillBits c ++ (pieceBits (t.size : Int) 16 false ++ (pieceBits (65535 - (t.size : Int)) 16 false ++ byteBits (numsOf t)))
/-- What StoredBlock comes to. -/
def storedOut (s : ByteArray) (c : Int) (t : ByteArray) (last : Bool) : Option (ByteArray × Nat) :=
  if t.size ≤ 2600 then (outSt s c).bind fun o => bitsOut o (headBits 0 last ++ storedBits (o.2 + 3) t) else none

theorem byte_back : ((fun n : Int => UInt8.ofNat n.toNat) ∘ fun b : UInt8 => (b.toNat : Int)) = id := by
  funext b
  simp
theorem str_nums (s : ByteArray) : strOfNums (numsOf s) = s := by
  obtain ⟨d⟩ := s
  simp [strOfNums, numsOf, byte_back]
theorem str_two (s t : ByteArray) : strOfNums (numsOf s ++ numsOf t) = s ++ t := by
  have h : (s ++ t).data = s.data ++ t.data := ByteArray.data_append
  have e : strOfNums (numsOf s ++ numsOf t) = ⟨s.data ++ t.data⟩ := by
    simp [strOfNums, numsOf, byte_back]
  rw [e, ← h]
/-- FillByte, as bits. -/
theorem fill_bits {s : ByteArray} {c : Nat} (h : outB s c = true) : bitsOut (s, c) (fillBits c) = some (s, 8 * s.size) := by
  have hi := bytes_inv s c h
  have hf := fits_of_outB s c h
  obtain ⟨q1, q2, q3, q4⟩ := hf
  have hl : c + (fillBits c).length = 8 * s.size := by rw [fillBits_length]; omega
  rw [bitsOut_some h (by rw [hl]; omega), hl, show putB (numsOf s) c (fillBits c) = numsOf s from putB_fill hi, str_nums]
/-- A text behind whole bytes, as bits. -/
theorem text_bits {s t : ByteArray} {c : Nat} (h : outB s c = true) (h8 : c % 8 = 0) : bitsOut (s, c) (byteBits (numsOf t)) = if s.size + t.size ≤ 12000 then some (s ++ t, c + 8 * t.size) else none := by
  have hi := bytes_inv s c h
  have hf := fits_of_outB s c h
  obtain ⟨q1, q2, q3, q4⟩ := hf
  have hl : (byteBits (numsOf t)).length = 8 * t.size := by rw [byteBits_length, numsOf_length]
  by_cases hr : s.size + t.size ≤ 12000
  · rw [if_pos hr, bitsOut_some h (by rw [hl]; omega), hl, putB_bytes _ _ _ (by rw [numsOf_length]; omega) h8 (numsOf_allB t)]
    rw [str_two]
  · rw [if_neg hr, bitsOut_none (fun q => hr (by have := q.2; rw [hl] at this; omega))]

/-- Part by part. -/
theorem stored_parts {s : ByteArray} {c : Int} {t : ByteArray} {last : Bool} (h : t.size ≤ 2600) : storedOut s c t last = ((outSt s c).bind fun o => bitsOut o (headBits 0 last)).bind fun o => bitsOut o (storedBits o.2 t) := by
  unfold storedOut
  rw [if_pos h]
  cases outSt s c with
  | none => rfl
  | some o =>
    show bitsOut o (headBits 0 last ++ storedBits (o.2 + 3) t) = (bitsOut o (headBits 0 last)).bind fun o => bitsOut o (storedBits o.2 t)
    rw [bitsOut_append _ _ (headBits_01 0 last)]
    cases h1 : bitsOut o (headBits 0 last) with
    | none => rfl
    | some o1 =>
      have := (bitsOut_right h1 (headBits_01 0 last)).2.1
      rw [headBits_length] at this
      show bitsOut o1 _ = bitsOut o1 _
      rw [this]
/-- Both numbers, behind whole bytes. -/
def storedNums (s1 : ByteArray) (t : ByteArray) : Option (ByteArray × Nat) := (bitsOut (s1, 8 * s1.size) (pieceBits (t.size : Int) 16 false)).bind fun o => bitsOut o (pieceBits (65535 - (t.size : Int)) 16 false)
theorem stored_end {s1 t : ByteArray} {c1 : Nat} (h : outB s1 c1 = true) : bitsOut (s1, c1) (storedBits c1 t) = (storedNums s1 t).bind fun o => if o.1.size + t.size ≤ 12000 then some (o.1 ++ t, o.2 + 8 * t.size) else none := by
  unfold storedBits storedNums
  have hf := (bitsOut_right (fill_bits h) (fillBits_01 c1)).1
  rw [bitsOut_append _ _ (fillBits_01 c1), fill_bits h]
  show bitsOut (s1, 8 * s1.size) _ = _
  rw [bitsOut_append _ _ (pieceBits_01 _ _ _)]
  cases h2 : bitsOut (s1, 8 * s1.size) (pieceBits (t.size : Int) 16 false) with
  | none => rfl
  | some o2 =>
    have k2 := bitsOut_right h2 (pieceBits_01 _ _ _)
    show bitsOut o2 _ = (bitsOut o2 _).bind _
    rw [bitsOut_append _ _ (pieceBits_01 _ _ _)]
    cases h3 : bitsOut o2 (pieceBits (65535 - (t.size : Int)) 16 false) with
    | none => rfl
    | some o3 =>
      have k3 := bitsOut_right h3 (pieceBits_01 _ _ _)
      obtain ⟨s3, c3⟩ := o3
      have e2 := k2.2.1
      have e3 := k3.2.1
      rw [pieceBits_length] at e2 e3
      exact text_bits k3.1 (by simp only [] at e2 e3 ⊢; omega)

/-- What is told to the caller. -/
def blkAns : Option (ByteArray × Nat) → Value
  | some o => .tuple #[.agg #[.string o.1, .int .i64 (o.2 : Int)], .bool true]
  | none => .tuple #[.agg #[.string ⟨#[]⟩, .int .i64 0], .bool false]

theorem blkAns_form (o : Option (ByteArray × Nat)) : ∃ t n b, blkAns o = .tuple #[.agg #[.string t, .int .i64 n], .bool b] := by
  cases o with
  | none => exact ⟨_, _, _, rfl⟩
  | some o => exact ⟨_, _, _, rfl⟩
end Go.Proofs.Ytbcnlggkoidmmaa
