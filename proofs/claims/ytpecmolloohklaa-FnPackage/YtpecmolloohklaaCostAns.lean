/-
  What the program's function is to answer.
-/
import Derived.Test.YtpecmolloohklaaRows
import Derived.Test.YtpecmolloohklaaIntsLib
import Derived.Test.YtpecmolloohklaaCodeMath
import Derived.Test.YtpecmolloohklaaCostPost
import Derived.WalkKit
import Derived.Below
namespace Go.Proofs.Ytpecmolloohklaa
open Go.RowKit Go.Joins CodeMath

/-- What the program's CostOf answers. -/
def CostAnswer : Prop := ∀ (a1 a2 : Option Addr) (n m c1 c2 : Nat) (f c : Nat → Int) (w : World), Came w a1 n f → Came w a2 m c → n ≤ 1048576 → m ≤ 1048576 → (∀ i, i < n → (Lit.int .i64 (f i)).wf = true) → (∀ i, i < m → (Lit.int .i64 (c i)).wf = true) →
    Calls Try.prog 11 #[.slice a1 n c1, .slice a2 m c2] w (CostPost f c n m w)

end Go.Proofs.Ytpecmolloohklaa
