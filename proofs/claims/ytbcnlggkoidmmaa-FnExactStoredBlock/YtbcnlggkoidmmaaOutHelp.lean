/-
  The walks of what the exact laws do with an Out.
-/
import Derived.Test.YtbcnlggkoidmmaaRows
import Derived.Test.YtbcnlggkoidmmaaOutMath
import Derived.Test.YtbcnlggkoidmmaaPowWalks
import Derived.WalkKit
import Derived.ProofKit
import Derived.WalkLawsBesides
import Derived.Deep.QuietTactic
import Derived.BigQuiet
import Derived.Lib.SmallJoins
namespace Go.Proofs.Ytbcnlggkoidmmaa
open Go.RowKit Go.Joins OutMath

theorem szOut_ok (s : ByteArray) (c x : Int) (w : World) (h0 : 0 ≤ x) (h1 : x ≤ 1048576) (h : (s.size : Int) ≤ x) :
    Calls Try.prog 15 #[.agg #[.string s, .int .i64 c], .int .i64 x] w fun e w' => e = .returned (.int .i64 (x - s.size)) ∧ Below w.heap.size w w' := by
  have d : ¬ x - (s.size : Int) < 0 := by omega
  go_enter Try.func15, Try.ntmps15
  go_wp2
  go_ret
  exact ⟨rfl, (Below.refl _ _).alloc (Nat.le_refl _) _⟩

theorem szOut_no (s : ByteArray) (c x : Int) (w : World) (hs : s.size ≤ maxLen) (h0 : 0 ≤ x) (h1 : x ≤ 1048576) (h : x < (s.size : Int)) :
    Calls Try.prog 15 #[.agg #[.string s, .int .i64 c], .int .i64 x] w fun e w' => e = .returned (.int .i64 (-1)) ∧ Below w.heap.size w w' := by
  unfold maxLen at hs
  have d : x - (s.size : Int) < 0 := by omega
  go_enter Try.func15, Try.ntmps15
  go_wp2
  go_ret
  exact ⟨rfl, (Below.refl _ _).alloc (Nat.le_refl _) _⟩

theorem toOut_any (s : ByteArray) (c : Int) (w : World) :
    Calls Try.prog 17 #[.agg #[.string s, .int .i64 c]] w fun e w' => e = .returned (.agg #[.string s, .int .i64 c]) ∧ Below w.heap.size w w' := by
  go_enter Try.func17, Try.ntmps17
  go_wp2
  exact bodyPost_ret (v := .agg #[.string s, .int .i64 c]) (by simp [results, Try.results17, go_sem]) rfl ⟨rfl, below_alloc3 _ _ _ _⟩

theorem eqOut_same (s : ByteArray) (c : Int) (w : World) :
    Calls Try.prog 19 #[.agg #[.string s, .int .i64 c], .agg #[.string s, .int .i64 c]] w fun e w' => e = .returned (.bool true) ∧ Below w.heap.size w w' := by
  go_enter Try.func19, Try.ntmps19
  go_wp2
  go_ret
  exact ⟨rfl, below_alloc2 _ _ _⟩

end Go.Proofs.Ytbcnlggkoidmmaa
