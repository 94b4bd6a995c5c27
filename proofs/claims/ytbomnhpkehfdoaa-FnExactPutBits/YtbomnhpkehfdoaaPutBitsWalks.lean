/-
  The walks of PutBits, in the document's model and in the program.
-/
import Derived.Test.YtbomnhpkehfdoaaPutBitsSpec
import Derived.Test.YtbomnhpkehfdoaaPutBitsImpl
namespace Go.Proofs.Ytbomnhpkehfdoaa
end Go.Proofs.Ytbomnhpkehfdoaa
