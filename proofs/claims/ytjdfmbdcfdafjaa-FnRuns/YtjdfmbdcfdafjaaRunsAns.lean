/-
  What the program's functions on Runs are to answer.
-/
import Derived.Test.YtjdfmbdcfdafjaaRows
import Derived.Test.YtjdfmbdcfdafjaaBase
import Derived.Test.YtjdfmbdcfdafjaaIntsLib
import Derived.Test.YtjdfmbdcfdafjaaCodeMath
import Derived.Test.YtjdfmbdcfdafjaaRunsMath
import Derived.Test.YtjdfmbdcfdafjaaRunWalks
import Derived.Test.YtjdfmbdcfdafjaaRunsSpec
import Derived.Test.YtjdfmbdcfdafjaaBackSpec
import Derived.WalkKit
import Derived.Below
namespace Go.Proofs.Ytjdfmbdcfdafjaa
open Go.RowKit Go.Joins Go.Sort CodeMath RunsMath

def RunsAnswer : Prop := ∀ (a : Option Addr) (n cap : Nat) (f : Nat → Int) (w : World), Came w a n f → n ≤ 1048576 → (∀ i, i < n → (Lit.int .i64 (f i)).wf = true) →
    (RunsRight f n → Calls Try.prog 9 #[.slice a n cap] w fun e w' => ∃ (a' : Option Addr) (cap' : Nat), e = .returned (.tuple #[.slice a' (rest f n 0).length cap', .bool true]) ∧ DSL w' w.heap.size a' (rest f n 0).length (fun j => (rest f n 0).getD j (0, 0)) ∧ (rest f n 0).length ≤ cap' ∧ Below w.heap.size w w') ∧
    (¬ RunsRight f n → Calls Try.prog 9 #[.slice a n cap] w fun e w' => ∃ (a' : Option Addr) (cap' : Nat), e = .returned (.tuple #[.slice a' 0 cap', .bool false]) ∧ Below w.heap.size w w')
def BackAnswer : Prop := ∀ (a : Option Addr) (c : Nat) (L : List (Int × Int)) (z : Int) (w : World), DCame w a L.length (fun j => L.getD j (0, 0)) → L.length ≤ c → L.length ≤ 1048576 → (∀ r ∈ L, (Lit.int .i64 r.1).wf = true ∧ (Lit.int .i64 r.2).wf = true) → (Lit.int .i64 z).wf = true →
    (∀ O, backOf L z = some O → Calls Try.prog 11 #[.slice a L.length c, .int .i64 z] w fun e w' => ∃ (a' : Option Addr) (cap' : Nat), e = .returned (.tuple #[.slice a' O.length cap', .bool true]) ∧ SL w' w.heap.size a' O.length cap' (fun j => O.getD j 0) ∧ Below w.heap.size w w') ∧
    (backOf L z = none → Calls Try.prog 11 #[.slice a L.length c, .int .i64 z] w fun e w' => ∃ (a' : Option Addr) (cap' : Nat), e = .returned (.tuple #[.slice a' 0 cap', .bool false]) ∧ Below w.heap.size w w')
def BitsAnswer : Prop := ∀ (x : Int) (w : World), (Lit.int .i64 x).wf = true → Calls Try.prog 12 #[.int .i64 x] w fun e w' => e = .returned (.int .i64 ((bitsOf x : Nat) : Int)) ∧ ∃ k os', w' = grow (w.drewN k) os'

theorem below_grow2 {w : World} (n : Nat) (os : Array Obj) : Below w.heap.size w (grow (w.drewN n) os) := by
  refine ⟨rfl, rfl, rfl, ?_, fun k hk => heap_grow_old (w.drewN n) os hk⟩
  rw [size_grow]
  show w.heap.size ≤ w.heap.size + os.size
  omega

end Go.Proofs.Ytjdfmbdcfdafjaa
