/-
  The walk of the model's 'in least .. most'.
-/
import Derived.Test.YtofblofmejgipaaRows
import Derived.WalkKit
import Derived.ProofKit
import Derived.WalkLawsBesides
namespace Go.Proofs.Ytofblofmejgipaa
open Go.RowKit

end Go.Proofs.Ytofblofmejgipaa
