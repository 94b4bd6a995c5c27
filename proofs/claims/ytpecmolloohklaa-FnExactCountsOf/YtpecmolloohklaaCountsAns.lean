/-
  What the program's CountsOf is to answer.
-/
import Derived.Test.YtpecmolloohklaaRows
import Derived.Test.YtpecmolloohklaaIntsLib
import Derived.Test.YtpecmolloohklaaCodeMath
import Derived.WalkKit
import Derived.Below
namespace Go.Proofs.Ytpecmolloohklaa
open Go.RowKit Go.Joins CodeMath

/-- A size and a list that are counted. -/
def CountsRight (f : Nat → Int) (n : Nat) (z : Int) : Prop := 1 ≤ z ∧ z ≤ 288 ∧ n ≤ 12000 ∧ ∀ i, i < n → 0 ≤ f i ∧ f i ≤ z - 1
def CountsAnswer : Prop := ∀ (a : Option Addr) (n cap : Nat) (f : Nat → Int) (z : Int) (w : World), Came w a n f → n ≤ 1048576 → (∀ i, i < n → (Lit.int .i64 (f i)).wf = true) → (Lit.int .i64 z).wf = true →
    (CountsRight f n z → Calls Try.prog 16 #[.slice a n cap, .int .i64 z] w fun e w' => ∃ (a' : Option Addr) (cap' : Nat), e = .returned (.tuple #[.slice a' z.toNat cap', .bool true]) ∧ SL w' w.heap.size a' z.toNat cap' (fun s => cntS f s n) ∧ Below w.heap.size w w') ∧
    (¬ CountsRight f n z → Calls Try.prog 16 #[.slice a n cap, .int .i64 z] w fun e w' => ∃ (a' : Option Addr) (cap' : Nat), e = .returned (.tuple #[.slice a' 0 cap', .bool false]) ∧ Below w.heap.size w w')

end Go.Proofs.Ytpecmolloohklaa
