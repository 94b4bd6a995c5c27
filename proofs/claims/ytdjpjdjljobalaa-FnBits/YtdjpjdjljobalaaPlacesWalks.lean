/-
  The walks of PutBits and PutCode in the document's model.
-/
import Derived.Test.YtdjpjdjljobalaaRows
import Derived.Test.YtdjpjdjljobalaaBase
import Derived.Test.YtdjpjdjljobalaaOutMath
import Derived.Test.YtdjpjdjljobalaaOutWalks
import Derived.Test.YtdjpjdjljobalaaMayWalks
import Derived.Test.YtdjpjdjljobalaaPutMath
import Derived.Test.YtdjpjdjljobalaaOwnLib
import Derived.Test.YtdjpjdjljobalaaPutSpec
import Derived.WalkKit
import Derived.ProofKit
import Derived.WalkLawsBesides
import Derived.Lib.SmallJoins
namespace Go.Proofs.Ytdjpjdjljobalaa
open Go.RowKit Go.Joins OutMath PutMath

/-- The first k of the places. -/
def places (pl : Nat → Nat) : Nat → List Value
  | 0 => []
  | k + 1 => places pl k ++ [.int .i64 (pl k)]
theorem places_length (pl : Nat → Nat) : ∀ k, (places pl k).length = k
  | 0 => rfl
  | k + 1 => by simp [places, places_length pl k]
theorem places_get (pl : Nat → Nat) : ∀ k j (h : j < (places pl k).length), (places pl k)[j] = .int .i64 (pl j)
  | 0, j, h => by simp [places] at h
  | k + 1, j, h => by
    have hl := places_length pl k
    by_cases hj : j < k
    · simp only [places]
      rw [List.getElem_append_left (by omega)]
      exact places_get pl k j (by omega)
    · simp only [places] at h ⊢
      obtain rfl : j = k := by simp [hl] at h; omega
      rw [List.getElem_append_right (by omega)]
      simp

theorem bytes_inv (s : ByteArray) (c : Nat) (h : outB s c = true) : Inv (s.data.toList.map fun b => (b.toNat : Int)) c := by
  have hf := fits_of_outB s c h
  obtain ⟨q1, q2, q3, q4⟩ := hf
  refine ⟨by simp; omega, fun h8 => ?_⟩
  have hc : ¬ (c : Int) % 8 = 0 := by omega
  rw [outB_fit1 s c (fits_of_outB s c h) hc] at h
  unfold lastOk at h
  have h' := of_decide_eq_true h
  rw [show ((c : Int) % 8).toNat = c % 8 by omega] at h'
  have hl : c / 8 = s.size - 1 := by omega
  have e : (s.data.toList.map fun b => (b.toNat : Int)).getD (c / 8) 0 = (last s : Int) := by
    rw [hl]
    unfold last
    have hlt : s.size - 1 < s.data.size := by have : s.data.size = s.size := rfl; omega
    rw [List.getD_eq_getElem?_getD, List.getElem?_map, Array.getElem?_toList, Array.getElem?_eq_getElem hlt]
    rfl
  rw [e]
  exact ⟨by omega, h'⟩

/-- What PutBits and PutCode tell, the places of the bits being pl. -/
def putOut (s : ByteArray) (c : Nat) (x : Int) (pl : Nat → Nat) (n : Nat) : ByteArray := strOfNums (puts (s.data.toList.map fun b => (b.toNat : Int)) c (fun j => bitOf x (pl j)) n)

/-- A slice's length. -/
def sliceLen : Value → Nat
  | .slice _ n _ => n
  | _ => 0
end Go.Proofs.Ytdjpjdjljobalaa
