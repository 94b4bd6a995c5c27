/-
  Texts of the proof, put together.
-/
import Derived.Test.YtkpbfmdnjnohlaaGreatCk13
import Derived.Laws.CopyOwn
namespace Go.Proofs.YtkpbfmdnjnohlaaGreat
section
open Go.RowKit Go.Joins OutMath PutMath RastMath
def four (v:Nat→Int):Array Value:=#[.int .i64 (v 0),.int .i64 (v 1),.int .i64 (v 2),.int .i64 (v 3)]
end
section
open Go.RowKit Go.Joins OutMath PutMath
theorem info_int:(Tryz.prog.info? 3).map (fun i=>(i.zero,i.size,i.bytes))=some (some (.int .i64 0),1,8):=by kernel_rfl
end
end Go.Proofs.YtkpbfmdnjnohlaaGreat
