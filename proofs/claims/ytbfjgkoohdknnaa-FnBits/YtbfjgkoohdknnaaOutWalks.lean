/-
  What tells a right Out, in the laws, in the document's model and in the program.
-/
import Derived.Test.YtbfjgkoohdknnaaPowWalks
import Derived.Test.YtbfjgkoohdknnaaOutHelp
import Derived.Test.YtbfjgkoohdknnaaOutSpec
import Derived.Test.YtbfjgkoohdknnaaOutImpl
