/-
  What tells a right Out, in the laws, in the document's model and in the program.
-/
import Derived.Test.YtofblofmejgipaaPowWalks
import Derived.Test.YtofblofmejgipaaOutHelp
import Derived.Test.YtofblofmejgipaaOutSpec
import Derived.Test.YtofblofmejgipaaOutImpl
