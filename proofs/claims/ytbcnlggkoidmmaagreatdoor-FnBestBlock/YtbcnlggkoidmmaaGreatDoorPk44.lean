/-
  What the program's functions on Runs are to answer.
-/
import Derived.Test.YtbcnlggkoidmmaaGreatDoorRows
import Derived.Test.YtbcnlggkoidmmaaGreatDoorPk01
import Derived.Test.YtbcnlggkoidmmaaGreatDoorPk06
import Derived.Test.YtbcnlggkoidmmaaGreatDoorPk04
import Derived.Test.YtbcnlggkoidmmaaGreatDoorPk05
import Derived.Test.YtbcnlggkoidmmaaGreatDoorPk43
import Derived.Test.YtbcnlggkoidmmaaGreatDoorPk15
import Derived.Test.YtbcnlggkoidmmaaGreatDoorPk03
import Derived.Test.YtbcnlggkoidmmaaGreatDoorPk07
import Derived.WalkKit
import Derived.ProofKit
import Derived.WalkLawsBesides
import Derived.Deep.LoopGhost
import Derived.OwnWalk
import Derived.Deep.AppendLies
import Derived.Maps.AppendAt
import Derived.Laws.AppendOwnNone
import Derived.Lib.SmallJoins
import Derived.Below
namespace Go.Proofs.YtbcnlggkoidmmaaGreatDoor
open Go.RowKit Go.Joins Go.Sort CodeMath RunsMath

def RunsAnswer : Prop := ∀ (a : Option Addr) (n cap : Nat) (f : Nat → Int) (w : World), Came w a n f → n ≤ 1048576 → (∀ i, i < n → (Lit.int .i64 (f i)).wf = true) →
    (RunsRight f n → Calls Tryz.prog 76 #[.slice a n cap] w fun e w' => ∃ (a' : Option Addr) (cap' : Nat), e = .returned (.tuple #[.slice a' (rest f n 0).length cap', .bool true]) ∧ DSL w' w.heap.size a' (rest f n 0).length (fun j => (rest f n 0).getD j (0, 0)) ∧ (rest f n 0).length ≤ cap' ∧ Below w.heap.size w w') ∧
    (¬ RunsRight f n → Calls Tryz.prog 76 #[.slice a n cap] w fun e w' => ∃ (a' : Option Addr) (cap' : Nat), e = .returned (.tuple #[.slice a' 0 cap', .bool false]) ∧ Below w.heap.size w w')
def BitsAnswer : Prop := ∀ (x : Int) (w : World), (Lit.int .i64 x).wf = true → Calls Tryz.prog 80 #[.int .i64 x] w fun e w' => e = .returned (.int .i64 ((bitsOf x : Nat) : Int)) ∧ ∃ k os', w' = grow (w.drewN k) os'

theorem below_grow2 {w : World} (n : Nat) (os : Array Obj) : Below w.heap.size w (grow (w.drewN n) os) := by
  refine ⟨rfl, rfl, rfl, ?_, fun k hk => heap_grow_old (w.drewN n) os hk⟩
  rw [size_grow]
  show w.heap.size ≤ w.heap.size + os.size
  omega

end Go.Proofs.YtbcnlggkoidmmaaGreatDoor
