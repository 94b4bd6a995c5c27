/-
  What the program's filters are to answer.
-/
import Derived.Test.YtccjjpdhojmcgabRows
import Derived.Test.YtccjjpdhojmcgabBase
import Derived.Test.YtccjjpdhojmcgabFiltMath
import Derived.Test.YtccjjpdhojmcgabFiltVal
import Derived.WalkKit
import Derived.Below
namespace Go.Proofs.Ytccjjpdhojmcgab
open Go.RowKit TakeMath FiltMath

def PaethAnswer : Prop := ∀ (a b c : Int) (w : World), (Lit.int .i64 a).wf = true → (Lit.int .i64 b).wf = true → (Lit.int .i64 c).wf = true → Calls Try.prog 23 #[.int .i64 a, .int .i64 b, .int .i64 c] w fun e w' => e = .returned (.int .i64 (paethV a b c)) ∧ Below w.heap.size w w'
def FilterAnswer : Prop := ∀ (k : Int) (row above : ByteArray) (unit : Int) (w : World), (Lit.int .i64 k).wf = true → (Lit.int .i64 unit).wf = true → row.size ≤ 1048576 → above.size ≤ 1048576 → Calls Try.prog 10 #[.int .i64 k, .string row, .string above, .int .i64 unit] w fun e w' => e = .returned (.tuple #[.string (filtV k row above unit), .bool (decide (FiltR k row above unit))]) ∧ Below w.heap.size w w'
def WeightAnswer : Prop := ∀ (s : ByteArray) (w : World), s.size ≤ 1048576 → Calls Try.prog 9 #[.string s] w fun e w' => e = .returned (.int .i64 (weight s)) ∧ Below w.heap.size w w'
def BestFAnswer : Prop := ∀ (row above : ByteArray) (unit : Int) (w : World), (Lit.int .i64 unit).wf = true → row.size ≤ 1048576 → above.size ≤ 1048576 → Calls Try.prog 5 #[.string row, .string above, .int .i64 unit] w fun e w' => e = .returned (.tuple #[.int .i64 (bestV row above unit), .bool (decide (FiltR 0 row above unit))]) ∧ Below w.heap.size w w'
end Go.Proofs.Ytccjjpdhojmcgab
