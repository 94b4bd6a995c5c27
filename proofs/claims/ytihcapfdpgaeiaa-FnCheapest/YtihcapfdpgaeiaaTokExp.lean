/-
  What is asked of Expand.
-/
import Derived.Test.YtihcapfdpgaeiaaRows
import Derived.Test.YtihcapfdpgaeiaaBase
import Derived.Test.YtihcapfdpgaeiaaTokMath
import Derived.Test.YtihcapfdpgaeiaaTriLib
import Derived.Test.YtihcapfdpgaeiaaByteLib
import Derived.WalkKit
import Derived.Below
namespace Go.Proofs.Ytihcapfdpgaeiaa
open Go.RowKit TokMath

/-- What is asked of Expand, of a text and tokens. -/
def expandOf (s : ByteArray) (L : List Tok) : Option (List Int) := if s.size ≤ 12000 then expandL s.size (bytesOf s) L else none
/-- What Expand answers. -/
def ExpPost (w : World) (res : Option (List Int)) (e : Ending) (w' : World) : Prop :=
  Below w.heap.size w w' ∧ match res with
  | some F => e = .returned (.tuple #[.string (strOfNums F), .bool true])
  | none => e = .returned (.tuple #[.string ⟨#[]⟩, .bool false])

end Go.Proofs.Ytihcapfdpgaeiaa
