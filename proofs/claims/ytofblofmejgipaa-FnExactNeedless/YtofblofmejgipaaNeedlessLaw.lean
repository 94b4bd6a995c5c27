/-
  The walk of the law FnExactNeedless.
-/
import Derived.Test.YtofblofmejgipaaRows
import Derived.Test.YtofblofmejgipaaBase
import Derived.Test.YtofblofmejgipaaChunkMath
import Derived.Test.YtofblofmejgipaaNameMoreSpec
import Derived.Test.YtofblofmejgipaaNameImpl
import Derived.WalkKit
import Derived.ProofKit
import Derived.OpenShut
import Derived.ShutString
import Derived.ChangeOld
import Derived.Below
import Derived.Lib.SmallJoins
namespace Go.Proofs.Ytofblofmejgipaa
open Go.RowKit Go.Joins ChunkMath

theorem ret_tNeedless (s : ByteArray) (w : World) (t : Bool) (w0 : World) (h1 : ∀ w, Calls Try.prog 19 #[.string s] w fun e w' => e = .returned (.bool t) ∧ w' = w) (h2 : ∀ w, Calls Try.prog 20 #[.string s] w fun e w' => e = .returned (.bool t) ∧ w' = w) (hs : (s.size : Int) ≤ 1048576) (hb : Below w0.heap.size w0 w) :
    Calls Try.prog 6 #[.string s] w fun e w' => e = .returned (.bool true) ∧ Below w0.heap.size w0 w' := by
  have HB := hid_of hb
  clear hb
  cases t
  all_goals
    go_enter Try.func6, Try.ntmps6
    go_wp2_with fail
    refine (h1 _).mono ?_
    rintro e w1 ⟨rfl, rfl⟩
    go_wp2_with fail
    refine (h2 _).mono ?_
    rintro e w1 ⟨rfl, rfl⟩
    go_wp2_with fail
    go_ret
    exact ⟨rfl, HB.out⟩

theorem FnExactNeedless_over (s : ByteArray) (w : World) (hs0 : s.size ≤ maxLen) :
    Calls Try.prog 6 #[.string s] w fun e w' => e = .returned (.bool true) ∧ Below w.heap.size w w' := by
  unfold maxLen at hs0
  by_cases hs : (s.size : Int) ≤ 1048576
  · exact ret_tNeedless s w _ w (fun w => specNeedless s w) (fun w => implNeedless s w) hs (Below.refl _ _)
  · have d : (1048576 : Int) < (s.size : Int) := by omega
    go_enter Try.func6, Try.ntmps6
    go_wp2_with fail
    go_ret
    exact ⟨rfl, Below.refl _ _⟩

end Go.Proofs.Ytofblofmejgipaa
