/-
  Texts of the proof, put together.
-/
import Derived.Test.YtkpbfmdnjnohlaaGreatTk01
namespace Go.Proofs.YtkpbfmdnjnohlaaGreat
open Go.RowKit Go.Joins RastMath BigTextMath HeadMath
theorem head_cells {w:World} {b:Nat} {x y d c:Int} {l:Bool} (h:w.heap[b]?=some (.cells #[.int .i64 x,.int .i64 y,.int .i64 d,.int .i64 c,.bool l] 32 (0,0))):w.cell? ⟨b,0,none⟩=some (.int .i64 x)∧w.cell? ⟨b,1,none⟩=some (.int .i64 y)∧w.cell? ⟨b,2,none⟩=some (.int .i64 d)∧w.cell? ⟨b,3,none⟩=some (.int .i64 c)∧w.cell? ⟨b,4,none⟩=some (.bool l):=
 ⟨(cell_of_block h 0).trans rfl,(cell_of_block h 1).trans rfl,(cell_of_block h 2).trans rfl,(cell_of_block h 3).trans rfl,(cell_of_block h 4).trans rfl⟩
end Go.Proofs.YtkpbfmdnjnohlaaGreat
