/-
  What the program's TakeBits gives up with is caught.
-/
import Derived.Test.YtbomnhpkehfdoaaRows
import Derived.Test.YtbomnhpkehfdoaaBase
import Derived.WalkKit
import Derived.ProofKit
import Derived.WalkLawsBesides
import Derived.Defers
import Derived.Recover
import Derived.Lib.SmallJoins
namespace Go.Proofs.Ytbomnhpkehfdoaa
open Go.RowKit Go.Joins

theorem catchTake_panic (u : TypeId) (pv : Value) (older : List PanicEntry) (w : World) :
    CallsD Try.prog 23 #[] (.panicking ({ v := .iface u pv, recovered := false } :: older)) w fun e u' w' =>
      e = .returned (.tuple #[]) ∧ u' = .panicking ({ v := .iface u pv, recovered := true } :: older) ∧ w' = w := by
  refine callsD_of_wpS Try.func23 rfl fun c₀ cs hu => ?_
  apply wpS_region
  simp [wpOpsS, go_sem, recoverD, hu, Try.ntmps23, bodyPostS, results, Try.results23]

theorem catchTake_idle (w : World) :
    CallsD Try.prog 23 #[] .returning w fun e u' w' => e = .returned (.tuple #[]) ∧ u' = .returning ∧ w' = w := by
  refine callsD_of_wpS Try.func23 rfl fun c₀ cs hu => ?_
  apply wpS_region
  simp [wpOpsS, go_sem, recoverD, hu, Try.ntmps23]
  cases c₀
  simp_all [bodyPostS, results, Try.results23]

end Go.Proofs.Ytbomnhpkehfdoaa
