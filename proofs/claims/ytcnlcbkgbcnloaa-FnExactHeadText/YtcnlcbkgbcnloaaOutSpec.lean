/-
  The walks of the document's model of a right Out.
-/
import Derived.Test.YtcnlcbkgbcnloaaRows
import Derived.Test.YtcnlcbkgbcnloaaOutMath
import Derived.Test.YtcnlcbkgbcnloaaPowWalks
import Derived.Test.YtcnlcbkgbcnloaaOutIndex
import Derived.WalkKit
import Derived.ProofKit
import Derived.WalkLawsBesides
import Derived.Deep.QuietTactic
import Derived.BigQuiet
import Derived.Lib.SmallJoins
namespace Go.Proofs.Ytcnlcbkgbcnloaa
open Go.RowKit Go.Joins OutMath

end Go.Proofs.Ytcnlcbkgbcnloaa
