/-
  What may be put, and what putting comes to; nothing here speaks of the program.
-/
import Derived.Test.YtbcnlggkoidmmaaOutMath
import Derived.Test.YtbcnlggkoidmmaaPutMath
import Derived.WalkKit
import Derived.Laws.BytesArg
namespace Go.Proofs.Ytbcnlggkoidmmaa
open OutMath PutMath

/-- n bits, those of x, may be put behind the Out (s, c). -/
def May (s : ByteArray) (c x n : Int) : Prop := outB s c = true ∧ 0 ≤ n ∧ n ≤ 24 ∧ 0 ≤ x ∧ x < p2 n.toNat ∧ c + n ≤ 96000

theorem bytes_inv (s : ByteArray) (c : Nat) (h : outB s c = true) : Inv (s.data.toList.map fun b => (b.toNat : Int)) c := by
  have hf := fits_of_outB s c h
  obtain ⟨q1, q2, q3, q4⟩ := hf
  refine ⟨by simp; omega, fun h8 => ?_⟩
  have hc : ¬ (c : Int) % 8 = 0 := by omega
  rw [outB_fit1 s c (fits_of_outB s c h) hc] at h
  unfold lastOk at h
  have h' := of_decide_eq_true h
  rw [show ((c : Int) % 8).toNat = c % 8 by omega] at h'
  have hl : c / 8 = s.size - 1 := by omega
  have e : (s.data.toList.map fun b => (b.toNat : Int)).getD (c / 8) 0 = (last s : Int) := by
    rw [hl]
    unfold last
    have hlt : s.size - 1 < s.data.size := by have : s.data.size = s.size := rfl; omega
    rw [List.getD_eq_getElem?_getD, List.getElem?_map, Array.getElem?_toList, Array.getElem?_eq_getElem hlt]
    rfl
  rw [e]
  exact ⟨by omega, h'⟩

/-- What PutBits and PutCode tell, the places of the bits being pl. -/
def putOut (s : ByteArray) (c : Nat) (x : Int) (pl : Nat → Nat) (n : Nat) : ByteArray := strOfNums (puts (s.data.toList.map fun b => (b.toNat : Int)) c (fun j => bitOf x (pl j)) n)

end Go.Proofs.Ytbcnlggkoidmmaa
