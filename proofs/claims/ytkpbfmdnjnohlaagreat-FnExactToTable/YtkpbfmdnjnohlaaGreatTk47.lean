/-
  Texts of the proof, put together.
-/
import Derived.Test.YtkpbfmdnjnohlaaGreatTk46
import Derived.Test.YtkpbfmdnjnohlaaGreatTk34
namespace Go.Proofs.YtkpbfmdnjnohlaaGreat
open Go.RowKit Go.Joins Go.Shelf OutMath PutMath RastMath HeadMath
attribute [local go_sem] Oper.semAt_some
theorem info_int18:(Tryz.prog.info? 3).map (fun i=>(i.zero,i.size,i.bytes))=some (some (.int .i64 0),1,8):=by kernel_rfl
theorem calm_of {Q:Exit→Act→World→Prop} {a:Act} {w:World} (h:Q .normal a w):Go.NoPanic Q .normal a w:=h
end Go.Proofs.YtkpbfmdnjnohlaaGreat
