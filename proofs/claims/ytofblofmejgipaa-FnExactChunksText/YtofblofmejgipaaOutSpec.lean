/-
  The walks of the document's model of a right Out.
-/
import Derived.Test.YtofblofmejgipaaRows
import Derived.Test.YtofblofmejgipaaOutMath
import Derived.Test.YtofblofmejgipaaPowWalks
import Derived.Test.YtofblofmejgipaaOutIndex
import Derived.WalkKit
import Derived.ProofKit
import Derived.WalkLawsBesides
import Derived.Deep.QuietTactic
import Derived.BigQuiet
import Derived.Lib.SmallJoins
namespace Go.Proofs.Ytofblofmejgipaa
open Go.RowKit Go.Joins OutMath

end Go.Proofs.Ytofblofmejgipaa
