/-
  What the program's functions on distances are to answer.
-/
import Derived.Test.YtcieladecjlnpaaRows
import Derived.Test.YtcieladecjlnpaaBase
import Derived.Test.YtcieladecjlnpaaStepMath
import Derived.WalkKit
import Derived.Below
namespace Go.Proofs.Ytcieladecjlnpaa
open Go.RowKit StepMath

def DistCodeAnswer : Prop := ∀ (n : Int) (w : World), (Lit.int .i64 n).wf = true → Calls Try.prog 13 #[.int .i64 n] w fun e w' => e = .returned (.tuple #[.int .i64 (DistCodeOf n).1, .int .i64 (DistCodeOf n).2.1, .int .i64 (DistCodeOf n).2.2]) ∧ Below w.heap.size w w'
def DistOfAnswer : Prop := ∀ (s x : Int) (w : World), (Lit.int .i64 s).wf = true → (Lit.int .i64 x).wf = true → Calls Try.prog 14 #[.int .i64 s, .int .i64 x] w fun e w' => e = .returned (.tuple #[.int .i64 (DistOfR s x).1, .bool (DistOfR s x).2]) ∧ Below w.heap.size w w'

end Go.Proofs.Ytcieladecjlnpaa
