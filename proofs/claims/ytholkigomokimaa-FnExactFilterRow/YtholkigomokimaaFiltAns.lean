/-
  What the program's filters are to answer.
-/
import Derived.Test.YtholkigomokimaaRows
import Derived.Test.YtholkigomokimaaBase
import Derived.Test.YtholkigomokimaaFiltMath
import Derived.Test.YtholkigomokimaaFiltVal
import Derived.WalkKit
import Derived.Below
namespace Go.Proofs.Ytholkigomokimaa
open Go.RowKit TakeMath FiltMath

def PaethAnswer : Prop := ∀ (a b c : Int) (w : World), (Lit.int .i64 a).wf = true → (Lit.int .i64 b).wf = true → (Lit.int .i64 c).wf = true → Calls Try.prog 69 #[.int .i64 a, .int .i64 b, .int .i64 c] w fun e w' => e = .returned (.int .i64 (paethV a b c)) ∧ Below w.heap.size w w'
def FilterAnswer : Prop := ∀ (k : Int) (row above : ByteArray) (unit : Int) (w : World), (Lit.int .i64 k).wf = true → (Lit.int .i64 unit).wf = true → row.size ≤ 1048576 → above.size ≤ 1048576 → Calls Try.prog 20 #[.int .i64 k, .string row, .string above, .int .i64 unit] w fun e w' => e = .returned (.tuple #[.string (filtV k row above unit), .bool (decide (FiltR k row above unit))]) ∧ Below w.heap.size w w'
def UnfilterAnswer : Prop := ∀ (k : Int) (row above : ByteArray) (unit : Int) (w : World), (Lit.int .i64 k).wf = true → (Lit.int .i64 unit).wf = true → row.size ≤ 1048576 → above.size ≤ 1048576 → Calls Try.prog 21 #[.int .i64 k, .string row, .string above, .int .i64 unit] w fun e w' => e = .returned (.tuple #[.string (unfV k row above unit), .bool (decide (FiltR k row above unit))]) ∧ Below w.heap.size w w'
def WeightAnswer : Prop := ∀ (s : ByteArray) (w : World), s.size ≤ 1048576 → Calls Try.prog 22 #[.string s] w fun e w' => e = .returned (.int .i64 (weight s)) ∧ Below w.heap.size w w'
def BestFAnswer : Prop := ∀ (row above : ByteArray) (unit : Int) (w : World), (Lit.int .i64 unit).wf = true → row.size ≤ 1048576 → above.size ≤ 1048576 → Calls Try.prog 19 #[.string row, .string above, .int .i64 unit] w fun e w' => e = .returned (.tuple #[.int .i64 (bestV row above unit), .bool (decide (FiltR 0 row above unit))]) ∧ Below w.heap.size w w'
end Go.Proofs.Ytholkigomokimaa
