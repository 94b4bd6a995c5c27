/-
  What the program's LimitedLengths is to answer.
-/
import Derived.Test.YtpecmolloohklaaRows
import Derived.Test.YtpecmolloohklaaIntsLib
import Derived.Test.YtpecmolloohklaaLimitMath
import Derived.WalkKit
import Derived.Below
namespace Go.Proofs.Ytpecmolloohklaa
open Go.RowKit Go.Joins PackageMath

def LimitAnswer : Prop := ∀ (a : Option Addr) (n cap : Nat) (f : Nat → Int) (z : Int) (w : World), Came w a n f → n ≤ 1048576 → (∀ i, i < n → (Lit.int .i64 (f i)).wf = true) → (Lit.int .i64 z).wf = true →
    (LimitRight f n z → Calls Try.prog 9 #[.slice a n cap, .int .i64 z] w fun e w' => ∃ (a' : Option Addr) (cap' : Nat), e = .returned (.tuple #[.slice a' n cap', .bool true]) ∧ SL w' w.heap.size a' n cap' (limLen f n z) ∧ Below w.heap.size w w') ∧
    (¬ LimitRight f n z → Calls Try.prog 9 #[.slice a n cap, .int .i64 z] w fun e w' => ∃ (a' : Option Addr) (cap' : Nat), e = .returned (.tuple #[.slice a' 0 cap', .bool false]) ∧ Below w.heap.size w w')

end Go.Proofs.Ytpecmolloohklaa
