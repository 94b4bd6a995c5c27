/-
  The bytes of a text as numbers by their places. Nothing here speaks of the program.
-/
import Derived.Test.YtihcapfdpgaeiaaTokMath
import Derived.Test.YtihcapfdpgaeiaaSearchMath
import Derived.Test.YtihcapfdpgaeiaaByteLib
import Derived.WalkKit
namespace Go.Proofs.Ytihcapfdpgaeiaa
open Go.RowKit TokMath SearchMath

def txt (s : ByteArray) (i : Nat) : Nat := (s.data[i]?.getD 0).toNat
theorem txt_lt (s : ByteArray) (i : Nat) : txt s i < 256 := UInt8.toNat_lt _
theorem txt_get (s : ByteArray) (i : Nat) (h : i < s.size) : (s[i]'h).toNat = txt s i := by
  unfold txt
  have h' : i < s.data.size := h
  rw [Array.getElem?_eq_getElem h']
  rfl
theorem pre_txt (s : ByteArray) : pre (txt s) s.size = bytesOf s := by
  apply List.ext_getElem?
  intro i
  unfold pre bytesOf
  rw [List.getElem?_map, List.getElem?_map, Array.getElem?_toList (xs := s.data)]
  by_cases h : i < s.size
  · have h' : i < s.data.size := h
    rw [List.getElem?_range h, Array.getElem?_eq_getElem h']
    show some ((txt s i : Nat) : Int) = some ((s.data[i].toNat : Nat) : Int)
    unfold txt
    rw [Array.getElem?_eq_getElem h']
    rfl
  · have h' : ¬ i < s.data.size := h
    rw [List.getElem?_eq_none (by rw [List.length_range]; omega), Array.getElem?_eq_none (by omega)]
    rfl

end Go.Proofs.Ytihcapfdpgaeiaa
