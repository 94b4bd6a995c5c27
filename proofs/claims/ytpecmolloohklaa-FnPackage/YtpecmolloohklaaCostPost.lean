/-
  What CostOf answers, as a post.
-/
import Derived.Test.YtpecmolloohklaaRows
import Derived.Test.YtpecmolloohklaaBase
import Derived.Test.YtpecmolloohklaaCodeMath
import Derived.WalkKit
import Derived.Below
namespace Go.Proofs.Ytpecmolloohklaa
open Go.RowKit Go.Joins CodeMath

def CostPost (f c : Nat → Int) (n m : Nat) (w : World) (e : Ending) (w' : World) : Prop :=
  ∃ (x : Int) (b : Bool), e = .returned (.tuple #[.int .i64 x, .bool b]) ∧ CostSays f c n m x b ∧ Below w.heap.size w w'
theorem CostPost.yes {f c : Nat → Int} {n m : Nat} {w w' : World} (h : CostRight f c n m) (hb : Below w.heap.size w w') : CostPost f c n m w (.returned (.tuple #[.int .i64 (cost f c n), .bool true])) w' := ⟨_, true, rfl, .inl ⟨rfl, h, rfl⟩, hb⟩
theorem CostPost.no {f c : Nat → Int} {n m : Nat} {w w' : World} (h : ¬ CostRight f c n m) (hb : Below w.heap.size w w') : CostPost f c n m w (.returned (.tuple #[.int .i64 0, .bool false])) w' := ⟨_, false, rfl, .inr ⟨rfl, rfl, h⟩, hb⟩

end Go.Proofs.Ytpecmolloohklaa
