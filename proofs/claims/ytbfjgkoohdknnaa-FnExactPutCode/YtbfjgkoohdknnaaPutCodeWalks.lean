/-
  The walks of PutCode, in the document's model and in the program.
-/
import Derived.Test.YtbfjgkoohdknnaaPutCodeSpec
import Derived.Test.YtbfjgkoohdknnaaPutCodeImpl
namespace Go.Proofs.Ytbfjgkoohdknnaa
end Go.Proofs.Ytbfjgkoohdknnaa
