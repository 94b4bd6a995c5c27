/-
  Texts of the proof, put together.
-/
import Derived.WalkKit
namespace Go.Proofs.YtcbbcadfolgioaaDoor
open Go.RowKit
theorem wp_scope_from {P:Program} {a:Act} {w:World} {Q:Exit→Act→World→Prop} {c y:Code} (l:Nat) (J:Act→World→Prop) (μ:Act→World→Nat) (hf:findLabel c l=some (.seq .skip y))
  (pass:∀ a w,J a w→y.wp P (Exit.jump l (fun a' w'=>J a' w'∧μ a' w' < μ a w) Q) a w)
  (first:(∀ a w,J a w→y.wp P (Exit.jump l J Q) a w)→c.wp P (Exit.jump l J Q) a w):(Code.scope c).wp P Q a w:=by
 have weak:∀ a w,J a w→y.wp P (Exit.jump l J Q) a w:=fun a w h=>wp_mono (pass a w h) fun e a' w' q=>by
  cases e with
  | goto l'=>exact⟨q.1,q.2.1⟩
  | normal=>exact q
  | exit id=>exact q
  | ret=>exact q
  | panic ch=>exact q
  | outgrown=>exact q
 exact wp_scope_jumps l J μ hf (first weak) fun a w h=>wp_seq (wp_skip (pass a w h))
end Go.Proofs.YtcbbcadfolgioaaDoor
