/-
  The laws FnExactPassStep and FnExactPassSize over what the program answers.
-/
import Derived.Test.YtmanafegckibjaaDoorRows
import Derived.Test.YtmanafegckibjaaDoorBase
import Derived.Test.YtmanafegckibjaaDoorPassMath
import Derived.Test.YtmanafegckibjaaDoorPassVal
import Derived.Test.YtmanafegckibjaaDoorGridVar
import Derived.Test.YtmanafegckibjaaDoorPassSpec
import Derived.Test.YtmanafegckibjaaDoorPassAns
import Derived.WalkKit
import Derived.ProofKit
import Derived.WalkLawsBesides
import Derived.Below
import Derived.Lib.SmallJoins
namespace Go.Proofs.YtmanafegckibjaaDoor
open Go.RowKit Go.Joins PassMath

theorem FnExactPassStep_over (hA : PassStepAnswer) (p : Int) (w : World) (hp : (Lit.int .i64 p).wf = true) (hG : GridG w) : Calls Tryd.prog 4 #[.int .i64 p] w fun e w' => e = .returned (.bool true) ∧ Below w.heap.size w w' := by
  have h1 := specPassStep p
  have h2 := fun V (h : GridG V) => hA p V hp h
  unfold stepT at h1
  generalize stepV px p = a at *
  generalize stepV py p = b at *
  generalize stepV pdx p = c at *
  generalize stepV pdy p = d at *
  have n0 : (a != a) = false := by simp
  have n1 : (b != b) = false := by simp
  have n2 : (c != c) = false := by simp
  have n3 : (d != d) = false := by simp
  go_enter Tryd.func4, Tryd.ntmps4
  go_wp2_with fail
  refine (h1 _).mono ?_
  rintro e w1 ⟨rfl, rfl⟩
  go_wp2_with fail
  refine (h2 _ hG).mono ?_
  rintro e w2 ⟨rfl, hB⟩
  have HB := hid_of hB
  clear hB
  go_wp2_with fail
  go_ret
  exact ⟨rfl, HB.out⟩
theorem FnExactPassSize_over (hA : PassSizeAnswer) (W H p : Int) (w : World) (hW : (Lit.int .i64 W).wf = true) (hH : (Lit.int .i64 H).wf = true) (hp : (Lit.int .i64 p).wf = true) (hG : GridG w) : Calls Tryd.prog 5 #[.int .i64 W, .int .i64 H, .int .i64 p] w fun e w' => e = .returned (.bool true) ∧ Below w.heap.size w w' := by
  have h1 := specPassSize W H p
  have h2 := fun V (h : GridG V) => hA W H p V hW hH hp h
  generalize wideV W H p = a at *
  generalize highV W H p = b at *
  have n0 : (a != a) = false := by simp
  have n1 : (b != b) = false := by simp
  go_enter Tryd.func5, Tryd.ntmps5
  go_wp2_with fail
  refine (h1 _).mono ?_
  rintro e w1 ⟨rfl, rfl⟩
  go_wp2_with fail
  refine (h2 _ hG).mono ?_
  rintro e w2 ⟨rfl, hB⟩
  have HB := hid_of hB
  clear hB
  go_wp2_with fail
  go_ret
  exact ⟨rfl, HB.out⟩
end Go.Proofs.YtmanafegckibjaaDoor
