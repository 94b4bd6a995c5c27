/-
  The walks of PutBits and PutCode in the document's model.
-/
import Derived.Test.YtbcnlggkoidmmaaRows
import Derived.Test.YtbcnlggkoidmmaaBase
import Derived.Test.YtbcnlggkoidmmaaOutMath
import Derived.Test.YtbcnlggkoidmmaaOutWalks
import Derived.Test.YtbcnlggkoidmmaaMayWalks
import Derived.Test.YtbcnlggkoidmmaaPutMath
import Derived.Test.YtbcnlggkoidmmaaPutLib
import Derived.Test.YtbcnlggkoidmmaaOwnLib
import Derived.Test.YtbcnlggkoidmmaaPutSpec
import Derived.WalkKit
import Derived.ProofKit
import Derived.WalkLawsBesides
import Derived.Lib.SmallJoins
namespace Go.Proofs.Ytbcnlggkoidmmaa
open Go.RowKit Go.Joins OutMath PutMath

/-- The first k of the places. -/
def places (pl : Nat → Nat) : Nat → List Value
  | 0 => []
  | k + 1 => places pl k ++ [.int .i64 (pl k)]
theorem places_length (pl : Nat → Nat) : ∀ k, (places pl k).length = k
  | 0 => rfl
  | k + 1 => by simp [places, places_length pl k]
theorem places_get (pl : Nat → Nat) : ∀ k j (h : j < (places pl k).length), (places pl k)[j] = .int .i64 (pl j)
  | 0, j, h => by simp [places] at h
  | k + 1, j, h => by
    have hl := places_length pl k
    by_cases hj : j < k
    · simp only [places]
      rw [List.getElem_append_left (by omega)]
      exact places_get pl k j (by omega)
    · simp only [places] at h ⊢
      obtain rfl : j = k := by simp [hl] at h; omega
      rw [List.getElem_append_right (by omega)]
      simp

/-- A slice's length. -/
def sliceLen : Value → Nat
  | .slice _ n _ => n
  | _ => 0
end Go.Proofs.Ytbcnlggkoidmmaa
