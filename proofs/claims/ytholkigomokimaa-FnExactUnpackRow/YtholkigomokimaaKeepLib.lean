/-
  What lasts through the laws of functions that answer a list of numbers. Nothing here speaks of the program.
-/
import Derived.Test.YtholkigomokimaaRows
import Derived.Test.YtholkigomokimaaBase
import Derived.Test.YtholkigomokimaaOwnLib
import Derived.Test.YtholkigomokimaaIntsLib
import Derived.WalkKit
import Derived.Below
namespace Go.Proofs.Ytholkigomokimaa
open Go.RowKit Go.Joins

/-- All that was there; the model's list; the program's list. -/
def ListKeep (W w : World) (B : Nat) (am a : Option Addr) (m cap : Nat) (F h : Nat → Int) : Prop :=
  Below W.heap.size W w ∧ Came w am m F ∧ (∀ g off, am = some ⟨g, off, none⟩ → g < B) ∧ B ≤ w.heap.size ∧ W.heap.size ≤ B ∧ SL w B a m cap h
theorem ListKeep.next {W w w' : World} {B : Nat} {am a : Option Addr} {m cap : Nat} {F h : Nat → Int} (k : ListKeep W w B am a m cap F h) (hb : Below w.heap.size w w') : ListKeep W w' B am a m cap F h := by
  obtain ⟨k1, k2, k3, k4, k5, k6⟩ := k
  exact ⟨bnext k1 hb, k2.called hb, k3, Nat.le_trans k4 hb.size, k5, k6.called hb⟩

end Go.Proofs.Ytholkigomokimaa
