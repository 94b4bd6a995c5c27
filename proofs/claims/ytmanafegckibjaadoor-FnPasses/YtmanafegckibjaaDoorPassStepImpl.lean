/-
  What the program's PassStep and PassSize answer.
-/
import Derived.Test.YtmanafegckibjaaDoorRows
import Derived.Test.YtmanafegckibjaaDoorPassAns
import Derived.Test.YtmanafegckibjaaDoorPassSmall
import Derived.WalkKit
namespace Go.Proofs.YtmanafegckibjaaDoor
open Go.RowKit Go.Joins RastMath PassMath

theorem step_answer : PassStepAnswer := fun p w _ hG => passStep_any p w hG
theorem size_answer : PassSizeAnswer := fun W H p w _ _ _ hG => passSize_any W H p w hG
end Go.Proofs.YtmanafegckibjaaDoor
