/-
  A number counted once more.
-/
import Derived.Test.YtpecmolloohklaaRows
import Derived.Test.YtpecmolloohklaaCodeMath
import Derived.Test.YtpecmolloohklaaIntsLib
namespace Go.Proofs.Ytpecmolloohklaa
open Go.RowKit Go.Joins CodeMath

theorem cntI_here (f : Nat → Int) (j s : Nat) (h : f j = (s : Int)) (i : Nat) : upd (fun q => cntS f (q : Nat) j) s (cntS f s j + 1) i = cntS f (i : Nat) (j + 1) := by
  unfold upd
  show _ = cntS f (i : Nat) j + (if f j = (i : Nat) then 1 else 0)
  by_cases e : i = s
  · subst e
    rw [if_pos rfl, if_pos h]
  · rw [if_neg e, if_neg (by omega)]
    show cntS f (i : Nat) j = cntS f (i : Nat) j + 0
    omega

end Go.Proofs.Ytpecmolloohklaa
