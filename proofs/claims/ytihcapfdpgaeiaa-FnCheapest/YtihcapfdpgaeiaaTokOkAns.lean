/-
  What the program's TokenOk is to answer.
-/
import Derived.Test.YtihcapfdpgaeiaaRows
import Derived.Test.YtihcapfdpgaeiaaBase
import Derived.Test.YtihcapfdpgaeiaaTokMath
import Derived.WalkKit
import Derived.Below
namespace Go.Proofs.Ytihcapfdpgaeiaa
open Go.RowKit TokMath

def TokAnswer : Prop := ∀ (x y z : Int) (w : World), (Lit.int .i64 x).wf = true → (Lit.int .i64 y).wf = true → (Lit.int .i64 z).wf = true → Calls Try.prog 39 #[.agg #[.int .i64 x, .int .i64 y, .int .i64 z]] w fun e w' => e = .returned (.bool (decide (TokRight (x, y, z)))) ∧ Below w.heap.size w w'

end Go.Proofs.Ytihcapfdpgaeiaa
