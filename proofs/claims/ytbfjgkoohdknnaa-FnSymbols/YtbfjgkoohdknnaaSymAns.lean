/-
  What the program's function is to answer.
-/
import Derived.Test.YtbfjgkoohdknnaaRows
import Derived.Test.YtbfjgkoohdknnaaIntsLib
import Derived.Test.YtbfjgkoohdknnaaCodeMath
import Derived.Test.YtbfjgkoohdknnaaHitMath
import Derived.WalkKit
import Derived.Below
namespace Go.Proofs.Ytbfjgkoohdknnaa
open Go.RowKit Go.Joins CodeMath

/-- What the program's TakeSymbol answers. -/
def SymAnswer : Prop := ∀ (a1 : Option Addr) (n c1 : Nat) (f : Nat → Int) (s : ByteArray) (a : Int) (w : World), Came w a1 n f → n ≤ 1048576 → (∀ i, i < n → (Lit.int .i64 (f i)).wf = true) → s.size ≤ 1048576 → -9223372036854775808 ≤ a → a ≤ 9223372036854775807 →
    (∀ i k, Coded f n → Next f n s a i k → Calls Try.prog 22 #[.slice a1 n c1, .agg #[.string s, .int .i64 a]] w fun e w' => e = .returned (.tuple #[.int .i64 (i : Nat), .agg #[.string s, .int .i64 (a + (k : Nat))], .bool true]) ∧ Below w.heap.size w w') ∧
    (¬ (Coded f n ∧ ∃ i k, Next f n s a i k) → Calls Try.prog 22 #[.slice a1 n c1, .agg #[.string s, .int .i64 a]] w fun e w' => e = .returned (.tuple #[.int .i64 0, .agg #[.string ⟨#[]⟩, .int .i64 0], .bool false]) ∧ Below w.heap.size w w')

end Go.Proofs.Ytbfjgkoohdknnaa
