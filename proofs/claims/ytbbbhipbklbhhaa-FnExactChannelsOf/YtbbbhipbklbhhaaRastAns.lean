/-
  What the program's small functions on rasters are to answer, and the laws on them over that.
-/
import Derived.Test.YtbbbhipbklbhhaaRows
import Derived.Test.YtbbbhipbklbhhaaBase
import Derived.Test.YtbbbhipbklbhhaaRastMath
import Derived.Test.YtbbbhipbklbhhaaRastSpec
import Derived.WalkKit
import Derived.ProofKit
import Derived.WalkLawsBesides
import Derived.Below
import Derived.Lib.SmallJoins
namespace Go.Proofs.Ytbbbhipbklbhhaa
open Go.RowKit Go.Joins RastMath

def ChannelsAnswer : Prop := ∀ (c : Int) (w : World), (Lit.int .i64 c).wf = true → Calls Try.prog 16 #[.int .i64 c] w fun e w' => e = .returned (.int .i64 (chan c)) ∧ Below w.heap.size w w'
def DepthAnswer : Prop := ∀ (c d : Int) (w : World), (Lit.int .i64 c).wf = true → (Lit.int .i64 d).wf = true → Calls Try.prog 18 #[.int .i64 c, .int .i64 d] w fun e w' => e = .returned (.bool (decide (DepthR c d))) ∧ Below w.heap.size w w'
def RowBytesAnswer : Prop := ∀ (x c d : Int) (w : World), (Lit.int .i64 x).wf = true → (Lit.int .i64 c).wf = true → (Lit.int .i64 d).wf = true → Calls Try.prog 25 #[.int .i64 x, .int .i64 c, .int .i64 d] w fun e w' => e = .returned (.int .i64 (rowB x c d)) ∧ Below w.heap.size w w'
theorem FnExactChannelsOf_over (hA : ChannelsAnswer) (c : Int) (w : World) (f0 : (Lit.int .i64 c).wf = true) : Calls Try.prog 4 #[.int .i64 c] w fun e w' => e = .returned (.bool true) ∧ Below w.heap.size w w' := by
  have hm := specChannels c
  have ha := fun W => hA c W f0
  generalize chan c = n at hm ha
  clear hA
  go_enter Try.func4, Try.ntmps4
  go_wp2_with fail
  refine (hm _).mono ?_
  rintro e w1 ⟨rfl, rfl⟩
  go_wp2_with fail
  refine (ha _).mono ?_
  rintro e w2 ⟨rfl, hB⟩
  have HB := hid_of hB
  clear hB
  go_wp2_with fail
  go_ret
  exact ⟨rfl, HB.out⟩
theorem FnExactDepthOk_over (hA : DepthAnswer) (c d : Int) (w : World) (f0 : (Lit.int .i64 c).wf = true) (f1 : (Lit.int .i64 d).wf = true) : Calls Try.prog 5 #[.int .i64 c, .int .i64 d] w fun e w' => e = .returned (.bool true) ∧ Below w.heap.size w w' := by
  have hm := specDepthOk c d
  have ha := fun W => hA c d W f0 f1
  generalize decide (DepthR c d) = n at hm ha
  clear hA
  go_enter Try.func5, Try.ntmps5
  go_wp2_with fail
  refine (hm _).mono ?_
  rintro e w1 ⟨rfl, rfl⟩
  go_wp2_with fail
  refine (ha _).mono ?_
  rintro e w2 ⟨rfl, hB⟩
  have HB := hid_of hB
  clear hB
  go_wp2_with fail
  go_ret
  exact ⟨rfl, HB.out⟩
theorem FnExactRowBytes_over (hA : RowBytesAnswer) (x c d : Int) (w : World) (f0 : (Lit.int .i64 x).wf = true) (f1 : (Lit.int .i64 c).wf = true) (f2 : (Lit.int .i64 d).wf = true) : Calls Try.prog 7 #[.int .i64 x, .int .i64 c, .int .i64 d] w fun e w' => e = .returned (.bool true) ∧ Below w.heap.size w w' := by
  have hm := specRowBytes x c d
  have ha := fun W => hA x c d W f0 f1 f2
  generalize rowB x c d = n at hm ha
  clear hA
  go_enter Try.func7, Try.ntmps7
  go_wp2_with fail
  refine (hm _).mono ?_
  rintro e w1 ⟨rfl, rfl⟩
  go_wp2_with fail
  refine (ha _).mono ?_
  rintro e w2 ⟨rfl, hB⟩
  have HB := hid_of hB
  clear hB
  go_wp2_with fail
  go_ret
  exact ⟨rfl, HB.out⟩
end Go.Proofs.Ytbbbhipbklbhhaa
