/-
  Samples come back from a row's text: plain numbers. Nothing here speaks of the program.
-/
import Derived.Test.YtcnlcbkgbcnloaaHk04
import Derived.Test.YtcnlcbkgbcnloaaHk14
import Derived.Test.YtcnlcbkgbcnloaaHk05
import Derived.Test.YtcnlcbkgbcnloaaHk15
import Derived.Test.YtcnlcbkgbcnloaaHk16
import Derived.WalkKit
namespace Go.Proofs.Ytcnlcbkgbcnloaa
open Go.RowKit OutMath PutMath TakeMath BitsMath RastMath

theorem packT_byte (f : Nat → Int) (n d j : Nat) (h : j < (n * d + 7) / 8) : (byteAt (packT f n d) j : Int) = packB f n d j := by
  have hl : (packL f n d).length = (n * d + 7) / 8 := packN_length _ _ _ _
  have hr := packB_range f n d j
  have hg : (packL f n d)[j]'(by rw [hl]; exact h) = packB f n d j := by
    have := packN_get f n d ((n * d + 7) / 8) j h
    rw [List.getD_eq_getElem?_getD, List.getElem?_eq_getElem (by rw [packN_length]; exact h)] at this
    exact this
  have hd : (packT f n d).data[j]? = some (UInt8.ofNat (packB f n d j).toNat) := by
    rw [← Array.getElem?_toList]
    show ((strOfNums (packL f n d)).data.toList)[j]? = _
    rw [strOfNums_data, List.getElem?_map, List.getElem?_eq_getElem (by rw [hl]; exact h), hg]
    rfl
  unfold byteAt
  rw [hd]
  show ((UInt8.ofNat (packB f n d j).toNat).toNat : Int) = _
  rw [UInt8.toNat_ofNat', Nat.mod_eq_of_lt (by omega)]
  omega
/-- Samples come back from the row's text. -/
theorem smp_pack {f : Nat → Int} {n d : Nat} (hF : Fit12 f n d) (i : Nat) (hi : i < n) : smp (packT f n d) d i = f i := by
  have hf := hF i hi
  rw [← unpack_pack hi hf.1 hf.2]
  refine hb_congr d fun k hk => ?_
  show bitOf (byteAt (packT f n d) ((i * d + k) / 8) : Int) _ = bitOf (packB f n d ((i * d + k) / 8)) _
  have hlt : i * d + k < n * d := by
    have : (i + 1) * d ≤ n * d := Nat.mul_le_mul_right d hi
    rw [Nat.add_mul] at this
    omega
  rw [packT_byte f n d _ (by omega)]
end Go.Proofs.Ytcnlcbkgbcnloaa
