/-
  What tells a right Out, in the laws, in the document's model and in the program.
-/
import Derived.Test.YtbcnlggkoidmmaaPowWalks
import Derived.Test.YtbcnlggkoidmmaaOutHelp
import Derived.Test.YtbcnlggkoidmmaaOutSpec
import Derived.Test.YtbcnlggkoidmmaaOutImpl
