/-
  What PutSymbols answers, as a post.
-/
import Derived.Test.YtbfjgkoohdknnaaRows
import Derived.Test.YtbfjgkoohdknnaaBase
import Derived.Test.YtbfjgkoohdknnaaCodeMath
import Derived.Test.YtbfjgkoohdknnaaPutsMath
import Derived.WalkKit
import Derived.Below
namespace Go.Proofs.Ytbfjgkoohdknnaa
open Go.RowKit Go.Joins CodeMath PutsMath

/-- What PutSymbols answers. -/
def PutsPost (f : Nat → Int) (n : Nat) (L : Nat → Int) (m : Nat) (s : ByteArray) (c : Int) (w : World) (e : Ending) (w' : World) : Prop :=
  Below w.heap.size w w' ∧ ((PutsRight f n L m s c ∧ e = .returned (.tuple #[.agg #[.string (ps f n L s c.toNat m).1, .int .i64 ((ps f n L s c.toNat m).2 : Nat)], .bool true])) ∨
    (¬ PutsRight f n L m s c ∧ e = .returned (.tuple #[.agg #[.string ⟨#[]⟩, .int .i64 0], .bool false])))
theorem PutsPost.no {f : Nat → Int} {n : Nat} {L : Nat → Int} {m : Nat} {s : ByteArray} {c : Int} {w w' : World} (h : ¬ PutsRight f n L m s c) (hb : Below w.heap.size w w') : PutsPost f n L m s c w (.returned (.tuple #[.agg #[.string ⟨#[]⟩, .int .i64 0], .bool false])) w' := ⟨hb, .inr ⟨h, rfl⟩⟩
theorem PutsPost.yes {f : Nat → Int} {n : Nat} {L : Nat → Int} {m : Nat} {s : ByteArray} {c : Int} {w w' : World} (h : PutsRight f n L m s c) (hb : Below w.heap.size w w') : PutsPost f n L m s c w (.returned (.tuple #[.agg #[.string (ps f n L s c.toNat m).1, .int .i64 ((ps f n L s c.toNat m).2 : Nat)], .bool true])) w' := ⟨hb, .inl ⟨h, rfl⟩⟩

end Go.Proofs.Ytbfjgkoohdknnaa
