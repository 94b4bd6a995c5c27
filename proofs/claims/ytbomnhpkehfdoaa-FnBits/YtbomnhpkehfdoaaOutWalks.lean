/-
  What tells a right Out, in the laws, in the document's model and in the program.
-/
import Derived.Test.YtbomnhpkehfdoaaPowWalks
import Derived.Test.YtbomnhpkehfdoaaOutHelp
import Derived.Test.YtbomnhpkehfdoaaOutSpec
import Derived.Test.YtbomnhpkehfdoaaOutImpl
