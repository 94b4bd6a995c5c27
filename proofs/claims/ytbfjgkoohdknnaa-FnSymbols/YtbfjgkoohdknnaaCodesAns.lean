/-
  What the program's function is to answer.
-/
import Derived.Test.YtbfjgkoohdknnaaRows
import Derived.Test.YtbfjgkoohdknnaaIntsLib
import Derived.Test.YtbfjgkoohdknnaaCodeMath
import Derived.WalkKit
import Derived.Below
namespace Go.Proofs.Ytbfjgkoohdknnaa
open Go.RowKit Go.Joins CodeMath

/-- What the program's CodesOf answers. -/
def CodesAnswer : Prop := ∀ (a : Option Addr) (n cap : Nat) (f : Nat → Int) (w : World), Came w a n f → n ≤ 1048576 → (∀ i, i < n → (Lit.int .i64 (f i)).wf = true) →
    (Coded f n → Calls Try.prog 15 #[.slice a n cap] w fun e w' => ∃ (a' : Option Addr) (cap' : Nat), e = .returned (.tuple #[.slice a' n cap', .bool true]) ∧ SL w' w.heap.size a' n cap' (codeOf f n) ∧ Below w.heap.size w w') ∧
    (¬ Coded f n → Calls Try.prog 15 #[.slice a n cap] w fun e w' => ∃ (a' : Option Addr) (cap' : Nat), e = .returned (.tuple #[.slice a' 0 cap', .bool false]) ∧ Below w.heap.size w w')

end Go.Proofs.Ytbfjgkoohdknnaa
