/-
  What the program's functions on lengths are to answer.
-/
import Derived.Test.YtcieladecjlnpaaRows
import Derived.Test.YtcieladecjlnpaaBase
import Derived.Test.YtcieladecjlnpaaStepMath
import Derived.WalkKit
import Derived.Below
namespace Go.Proofs.Ytcieladecjlnpaa
open Go.RowKit StepMath

def LengthCodeAnswer : Prop := ∀ (n : Int) (w : World), (Lit.int .i64 n).wf = true → Calls Try.prog 11 #[.int .i64 n] w fun e w' => e = .returned (.tuple #[.int .i64 (LengthCodeOf n).1, .int .i64 (LengthCodeOf n).2.1, .int .i64 (LengthCodeOf n).2.2]) ∧ Below w.heap.size w w'
def LengthOfAnswer : Prop := ∀ (s x : Int) (w : World), (Lit.int .i64 s).wf = true → (Lit.int .i64 x).wf = true → Calls Try.prog 12 #[.int .i64 s, .int .i64 x] w fun e w' => e = .returned (.tuple #[.int .i64 (LengthOfR s x).1, .bool (LengthOfR s x).2]) ∧ Below w.heap.size w w'

end Go.Proofs.Ytcieladecjlnpaa
