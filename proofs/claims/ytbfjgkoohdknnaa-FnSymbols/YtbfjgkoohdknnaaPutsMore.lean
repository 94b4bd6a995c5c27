/-
  Plain facts on symbols put by one writer; nothing here speaks of the program.
-/
import Derived.Test.YtbfjgkoohdknnaaOutMath
import Derived.Test.YtbfjgkoohdknnaaPutMath
import Derived.Test.YtbfjgkoohdknnaaPutLib
import Derived.Test.YtbfjgkoohdknnaaCodeMath
import Derived.Test.YtbfjgkoohdknnaaTakeMath
import Derived.Test.YtbfjgkoohdknnaaHitMath
import Derived.Test.YtbfjgkoohdknnaaBitsMath
import Derived.Test.YtbfjgkoohdknnaaPutsMath
namespace Go.Proofs.Ytbfjgkoohdknnaa
namespace PutsMath
open OutMath PutMath CodeMath HitMath BitsMath

/-- The bytes of a text. -/
abbrev byteL (s : ByteArray) : List Int := s.data.toList.map fun b => (b.toNat : Int)
theorem allB_bytes (s : ByteArray) : AllB (byteL s) := by
  intro i
  rw [List.getD_eq_getElem?_getD, List.getElem?_map]
  cases h : s.data.toList[i]? with
  | none => simp
  | some b =>
    have := UInt8.toNat_lt b
    simp only [Option.map_some, Option.getD_some]
    omega
theorem ps_out {f : Nat → Int} {n : Nat} {L : Nat → Int} {s : ByteArray} {c : Nat} (h : outB s c = true) : ∀ j, (∀ i, i < j → SymOk f n L s c i) → outB (ps f n L s c j).1 ((ps f n L s c j).2 : Nat) = true
  | 0, _ => h
  | j + 1, hj => by
    obtain ⟨_, _, _, h1, h2, h3, h4, h5, h6⟩ := hj j (by omega)
    have hI := inv_puts (f := fun i => bitOf (codeOf f n (L j).toNat) ((f (L j).toNat).toNat - 1 - i)) (bytes_inv _ _ h1) (fun k => bitOf_01 _ _) (f (L j).toNat).toNat
    have hA := allB_puts (f := fun i => bitOf (codeOf f n (L j).toNat) ((f (L j).toNat).toNat - 1 - i)) (bytes_inv _ _ h1) (allB_bytes _) (fun k => bitOf_01 _ _) (f (L j).toNat).toNat
    exact outB_of_inv hI hA (show (ps f n L s c j).2 + (f (L j).toNat).toNat ≤ 96000 by omega)
theorem ps_bytes {f : Nat → Int} {n : Nat} {L : Nat → Int} {s : ByteArray} {c : Nat} (j : Nat) (hj : SymOk f n L s c j) : byteL (ps f n L s c (j + 1)).1 = puts (byteL (ps f n L s c j).1) (ps f n L s c j).2 (fun i => bitOf (codeOf f n (L j).toNat) ((f (L j).toNat).toNat - 1 - i)) (f (L j).toNat).toNat := by
  obtain ⟨_, _, _, h1, h2, h3, h4, h5, h6⟩ := hj
  exact nums_back (allB_puts (f := fun i => bitOf (codeOf f n (L j).toNat) ((f (L j).toNat).toNat - 1 - i)) (bytes_inv _ _ h1) (allB_bytes _) (fun k => bitOf_01 _ _) (f (L j).toNat).toNat)

end PutsMath
end Go.Proofs.Ytbfjgkoohdknnaa
