/-
  What the program's functions on Runs are to answer.
  The Run at a place, as the program looks for it, in plain numbers. Nothing here speaks of the program.
-/
import Derived.Test.YtbcnlggkoidmmaaGreatDoorRows
import Derived.Test.YtbcnlggkoidmmaaGreatDoorQk01
import Derived.Test.YtbcnlggkoidmmaaGreatDoorQk07
import Derived.Test.YtbcnlggkoidmmaaGreatDoorQk05
import Derived.Test.YtbcnlggkoidmmaaGreatDoorQk06
import Derived.Test.YtbcnlggkoidmmaaGreatDoorQk45
import Derived.Test.YtbcnlggkoidmmaaGreatDoorQk21
import Derived.Test.YtbcnlggkoidmmaaGreatDoorQk03
import Derived.Test.YtbcnlggkoidmmaaGreatDoorQk13
import Derived.WalkKit
import Derived.ProofKit
import Derived.WalkLawsBesides
import Derived.Deep.LoopGhost
import Derived.OwnWalk
import Derived.Deep.AppendLies
import Derived.Maps.AppendAt
import Derived.Laws.AppendOwnNone
import Derived.Lib.SmallJoins
import Derived.Below
namespace Go.Proofs.YtbcnlggkoidmmaaGreatDoor
open Go.RowKit Go.Joins Go.Sort CodeMath RunsMath

def RunsAnswer : Prop := ∀ (a : Option Addr) (n cap : Nat) (f : Nat → Int) (w : World), Came w a n f → n ≤ 1048576 → (∀ i, i < n → (Lit.int .i64 (f i)).wf = true) →
    (RunsRight f n → Calls Tryz.prog 76 #[.slice a n cap] w fun e w' => ∃ (a' : Option Addr) (cap' : Nat), e = .returned (.tuple #[.slice a' (rest f n 0).length cap', .bool true]) ∧ DSL w' w.heap.size a' (rest f n 0).length (fun j => (rest f n 0).getD j (0, 0)) ∧ (rest f n 0).length ≤ cap' ∧ Below w.heap.size w w') ∧
    (¬ RunsRight f n → Calls Tryz.prog 76 #[.slice a n cap] w fun e w' => ∃ (a' : Option Addr) (cap' : Nat), e = .returned (.tuple #[.slice a' 0 cap', .bool false]) ∧ Below w.heap.size w w')
def BitsAnswer : Prop := ∀ (x : Int) (w : World), (Lit.int .i64 x).wf = true → Calls Tryz.prog 80 #[.int .i64 x] w fun e w' => e = .returned (.int .i64 ((bitsOf x : Nat) : Int)) ∧ ∃ k os', w' = grow (w.drewN k) os'

theorem below_grow2 {w : World} (n : Nat) (os : Array Obj) : Below w.heap.size w (grow (w.drewN n) os) := by
  refine ⟨rfl, rfl, rfl, ?_, fun k hk => heap_grow_old (w.drewN n) os hk⟩
  rw [size_grow]
  show w.heap.size ≤ w.heap.size + os.size
  omega

end Go.Proofs.YtbcnlggkoidmmaaGreatDoor

namespace Go.Proofs.YtbcnlggkoidmmaaGreatDoor.RunsMath

theorem same_zero {f : Nat → Int} {n : Nat} {x : Int} {m i : Nat} (h : f i ≠ x) : sameN f n x m i = 0 := by
  cases m with
  | zero => rfl
  | succ m =>
    unfold sameN
    rw [if_neg (fun q => h q.2)]
theorem same_min (f : Nat → Int) (n : Nat) (x : Int) : ∀ m M i, m ≤ M → sameN f n x m i = min (sameN f n x M i) m
  | 0, M, i, _ => by simp [sameN]
  | m + 1, 0, i, h => by omega
  | m + 1, M + 1, i, h => by
    have e := same_min f n x m M (i + 1) (by omega)
    unfold sameN
    split
    · omega
    · omega
/-- So many are enough. -/
theorem same_full (f : Nat → Int) (n : Nat) (x : Int) (m i : Nat) (hi : i ≤ n) : sameN f n x m i = min (sameN f n x n i) m := by
  rcases Nat.le_total m n with h | h
  · exact same_min f n x m n i h
  · have h1 := same_min f n x n m i h
    have h2 := same_in f n x m i hi
    omega
theorem alike_pos {f : Nat → Int} {n i : Nat} (h : i < n) : 1 ≤ sameN f n (f i) n i := by
  cases n with
  | zero => omega
  | succ n =>
    unfold sameN
    rw [if_pos ⟨h, rfl⟩]
    omega
theorem zeros_alike {f : Nat → Int} {n i : Nat} (h : i < n) (h0 : f i = 0) : zerosAt f n i = min (sameN f n (f i) n i) 138 := by
  unfold zerosAt
  rw [same_full f n 0 138 i (by omega), h0]
theorem zeros_other {f : Nat → Int} {n i : Nat} (h0 : f i ≠ 0) : zerosAt f n i = 0 := same_zero h0
theorem sameAt_alike {f : Nat → Int} {n i : Nat} (h : i < n) (hi : 0 < i) (h0 : f (i - 1) = f i) : sameAt f n i = min (sameN f n (f i) n i) 6 := by
  unfold sameAt
  rw [if_neg (by omega), same_full f n (f (i - 1)) 6 i (by omega), h0]
theorem sameAt_other {f : Nat → Int} {n i : Nat} (h0 : f (i - 1) ≠ f i) : sameAt f n i = 0 := by
  unfold sameAt
  split
  · rfl
  · exact same_zero (fun e => h0 e.symm)
theorem sameAt_first (f : Nat → Int) (n : Nat) : sameAt f n 0 = 0 := rfl

section
variable {f : Nat → Int} {n i q : Nat}
theorem at_18 (h : i < n) (hq : q = sameN f n (f i) n i) (h0 : f i = 0) (h1 : 11 ≤ q) : runAt f n i = ((18, ((min q 138 : Nat) : Int) - 11), min q 138) := by
  have e := zeros_alike h h0
  rw [← hq] at e
  unfold runAt
  rw [if_pos (by omega), e]
theorem at_17 (h : i < n) (hq : q = sameN f n (f i) n i) (h0 : f i = 0) (h1 : ¬ 11 ≤ q) (h2 : 3 ≤ q) : runAt f n i = ((17, (q : Int) - 3), q) := by
  have e := zeros_alike h h0
  rw [← hq, Nat.min_eq_left (by omega)] at e
  unfold runAt
  rw [if_neg (by omega), if_pos (by omega), e]
theorem at_16 (h : i < n) (hq : q = sameN f n (f i) n i) (hi : 0 < i) (h0 : f i ≠ 0) (he : f (i - 1) = f i) (h2 : 3 ≤ q) : runAt f n i = ((16, ((min q 6 : Nat) : Int) - 3), min q 6) := by
  have e := zeros_other (n := n) h0
  have e2 := sameAt_alike h hi he
  rw [← hq] at e2
  unfold runAt
  rw [if_neg (by omega), if_neg (by omega), if_pos (by omega), e2]
theorem at_x (h : i < n) (hq : q = sameN f n (f i) n i) (h1 : f i = 0 → ¬ 3 ≤ q) (h2 : ¬ (0 < i ∧ f (i - 1) = f i ∧ 3 ≤ q)) : runAt f n i = ((f i, 0), 1) := by
  have ez : ¬ 3 ≤ zerosAt f n i := by
    by_cases h0 : f i = 0
    · have e := zeros_alike h h0
      rw [← hq] at e
      have := h1 h0
      omega
    · rw [zeros_other h0]; omega
  have es : ¬ 3 ≤ sameAt f n i := by
    by_cases hi : 0 < i
    · by_cases he : f (i - 1) = f i
      · have e := sameAt_alike h hi he
        rw [← hq] at e
        intro k
        exact h2 ⟨hi, he, by omega⟩
      · rw [sameAt_other he]; omega
    · obtain rfl : i = 0 := by omega
      rw [sameAt_first]; omega
  unfold runAt
  rw [if_neg (by omega), if_neg ez, if_neg es]
end

end Go.Proofs.YtbcnlggkoidmmaaGreatDoor.RunsMath
