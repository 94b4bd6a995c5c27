/-
  The walk of the model's 'in least .. most'.
-/
import Derived.Test.YtaajieeenjdnbaaRows
import Derived.WalkKit
import Derived.ProofKit
import Derived.WalkLawsBesides
namespace Go.Proofs.Ytaajieeenjdnbaa
open Go.RowKit

end Go.Proofs.Ytaajieeenjdnbaa
