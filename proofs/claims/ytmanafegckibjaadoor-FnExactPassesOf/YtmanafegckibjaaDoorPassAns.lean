/-
  What the program is to answer of passes.
-/
import Derived.Test.YtmanafegckibjaaDoorRows
import Derived.Test.YtmanafegckibjaaDoorBase
import Derived.Test.YtmanafegckibjaaDoorIntsLib
import Derived.Test.YtmanafegckibjaaDoorRastMath
import Derived.Test.YtmanafegckibjaaDoorRasterMath
import Derived.Test.YtmanafegckibjaaDoorPassMath
import Derived.Test.YtmanafegckibjaaDoorPassVal
import Derived.Test.YtmanafegckibjaaDoorGridVar
import Derived.Test.YtmanafegckibjaaDoorRasList
import Derived.Test.YtmanafegckibjaaDoorPassList
import Derived.Test.YtmanafegckibjaaDoorPassJoin
import Derived.WalkKit
import Derived.Below
namespace Go.Proofs.YtmanafegckibjaaDoor
open Go.RowKit RastMath PassMath

def PassStepAnswer : Prop := ∀ (p : Int) (w : World), (Lit.int .i64 p).wf = true → GridG w → Calls Tryd.prog 15 #[.int .i64 p] w fun e w' => e = .returned (.tuple #[.int .i64 (stepV px p), .int .i64 (stepV py p), .int .i64 (stepV pdx p), .int .i64 (stepV pdy p)]) ∧ Below w.heap.size w w'
def PassSizeAnswer : Prop := ∀ (W H p : Int) (w : World), (Lit.int .i64 W).wf = true → (Lit.int .i64 H).wf = true → (Lit.int .i64 p).wf = true → GridG w → Calls Tryd.prog 12 #[.int .i64 W, .int .i64 H, .int .i64 p] w fun e w' => e = .returned (.tuple #[.int .i64 (wideV W H p), .int .i64 (highV W H p)]) ∧ Below w.heap.size w w'
def PassesAnswer : Prop := ∀ (r : Ras) (a : Option Addr) (cap : Nat) (w : World), Came w a r.n r.f → r.n ≤ 1048576 → r.n ≤ cap → cap ≤ maxLen → GridG w →
  (RasOk r → Calls Tryd.prog 10 #[rasA r a cap] w fun e w' => ∃ a' c', e = .returned (.tuple #[.slice a' 7 c', .bool true]) ∧ RSL w' w.heap.size a' 7 (passesR r) ∧ Below w.heap.size w w') ∧
  (¬ RasOk r → Calls Tryd.prog 10 #[rasA r a cap] w fun e w' => ∃ a' c', e = .returned (.tuple #[.slice a' 0 c', .bool false]) ∧ Below w.heap.size w w')
/-- The raster and the list that it came of; a list of which none comes. -/
def FromAnswer : Prop := ∀ (W H : Int) (a : Option Addr) (m c : Nat) (R : Nat → Ras) (w : World), RCame w a m R → m ≤ 1048576 → (∀ j, j < m → (R j).n ≤ 1048576) → (Lit.int .i64 W).wf = true → (Lit.int .i64 H).wf = true → GridG w →
  (FromR W H m R → Calls Tryd.prog 11 #[.int .i64 W, .int .i64 H, .slice a m c] w fun e w' => ∃ a' c', e = .returned (.tuple #[rasA (joinR W H R) a' c', .bool true]) ∧ SL w' w.heap.size a' (joinR W H R).n c' (joinR W H R).f ∧ (joinR W H R).n ≤ c' ∧ c' ≤ maxLen ∧ Below w.heap.size w w') ∧
  (¬ FromR W H m R → Calls Tryd.prog 11 #[.int .i64 W, .int .i64 H, .slice a m c] w fun e w' => ∃ a' c', e = .returned (.tuple #[.agg #[.int .i64 0, .int .i64 0, .int .i64 0, .int .i64 0, .slice a' 0 c'], .bool false]) ∧ Below w.heap.size w w')
end Go.Proofs.YtmanafegckibjaaDoor
