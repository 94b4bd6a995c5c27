/-
  What the program's function is to answer.
-/
import Derived.Test.YtbfjgkoohdknnaaRows
import Derived.Test.YtbfjgkoohdknnaaIntsLib
import Derived.Test.YtbfjgkoohdknnaaCodeMath
import Derived.Test.YtbfjgkoohdknnaaPutsMath
import Derived.Test.YtbfjgkoohdknnaaPutsPost
import Derived.WalkKit
import Derived.Below
namespace Go.Proofs.Ytbfjgkoohdknnaa
open Go.RowKit Go.Joins CodeMath PutsMath

/-- What the program's PutSymbols answers. -/
def PutsAnswer : Prop := ∀ (a1 a2 : Option Addr) (n m c1 c2 : Nat) (f L : Nat → Int) (s : ByteArray) (c : Int) (w : World), Came w a1 n f → Came w a2 m L → n ≤ 1048576 → m ≤ 1048576 → (∀ i, i < n → (Lit.int .i64 (f i)).wf = true) → (∀ i, i < m → (Lit.int .i64 (L i)).wf = true) → s.size ≤ 1048576 → -9223372036854775808 ≤ c → c ≤ 9223372036854775807 →
    Calls Try.prog 20 #[.agg #[.string s, .int .i64 c], .slice a1 n c1, .slice a2 m c2] w (PutsPost f n L m s c w)

/-- What it answers where there is a symbol to put. -/
def PutsSome : Prop := ∀ (a1 a2 : Option Addr) (n m c1 c2 : Nat) (f L : Nat → Int) (s : ByteArray) (c : Int) (w : World), 0 < m → Came w a1 n f → Came w a2 m L → n ≤ 1048576 → m ≤ 1048576 → (∀ i, i < n → (Lit.int .i64 (f i)).wf = true) → (∀ i, i < m → (Lit.int .i64 (L i)).wf = true) → s.size ≤ 1048576 → -9223372036854775808 ≤ c → c ≤ 9223372036854775807 →
    Calls Try.prog 20 #[.agg #[.string s, .int .i64 c], .slice a1 n c1, .slice a2 m c2] w (PutsPost f n L m s c w)

end Go.Proofs.Ytbfjgkoohdknnaa
