/-
  What the program's functions on tokens are to answer.
-/
import Derived.Test.YtcieladecjlnpaaRows
import Derived.Test.YtcieladecjlnpaaBase
import Derived.Test.YtcieladecjlnpaaTokMath
import Derived.Test.YtcieladecjlnpaaTriLib
import Derived.Test.YtcieladecjlnpaaByteLib
import Derived.WalkKit
import Derived.Below
namespace Go.Proofs.Ytcieladecjlnpaa
open Go.RowKit TokMath

/-- What is asked of Expand, of a text and tokens. -/
def expandOf (s : ByteArray) (L : List Tok) : Option (List Int) := if s.size ≤ 12000 then expandL s.size (bytesOf s) L else none
/-- What Expand answers. -/
def ExpPost (w : World) (res : Option (List Int)) (e : Ending) (w' : World) : Prop :=
  Below w.heap.size w w' ∧ match res with
  | some F => e = .returned (.tuple #[.string (strOfNums F), .bool true])
  | none => e = .returned (.tuple #[.string ⟨#[]⟩, .bool false])
def ExpandAnswer : Prop := ∀ (s : ByteArray) (a : Option Addr) (c : Nat) (L : List Tok) (w : World), TCame w a L.length (fun j => L.getD j (0, 0, 0)) → L.length ≤ c → L.length ≤ 1048576 → s.size ≤ 1048576 → (∀ t ∈ L, (Lit.int .i64 t.1).wf = true ∧ (Lit.int .i64 t.2.1).wf = true ∧ (Lit.int .i64 t.2.2).wf = true) →
    Calls Try.prog 16 #[.string s, .slice a L.length c] w (ExpPost w (expandOf s L))

end Go.Proofs.Ytcieladecjlnpaa
