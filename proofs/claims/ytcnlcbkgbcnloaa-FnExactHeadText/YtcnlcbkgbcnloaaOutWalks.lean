/-
  What tells a right Out, in the laws, in the document's model and in the program.
-/
import Derived.Test.YtcnlcbkgbcnloaaPowWalks
import Derived.Test.YtcnlcbkgbcnloaaOutHelp
import Derived.Test.YtcnlcbkgbcnloaaOutSpec
import Derived.Test.YtcnlcbkgbcnloaaOutImpl
