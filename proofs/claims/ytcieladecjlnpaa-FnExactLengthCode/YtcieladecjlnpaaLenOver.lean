/-
  The laws on lengths, over what the program's functions answer.
-/
import Derived.Test.YtcieladecjlnpaaRows
import Derived.Test.YtcieladecjlnpaaBase
import Derived.Test.YtcieladecjlnpaaStepMath
import Derived.Test.YtcieladecjlnpaaLenSpec
import Derived.Test.YtcieladecjlnpaaLenAns
import Derived.WalkKit
import Derived.ProofKit
import Derived.WalkLawsBesides
import Derived.Below
import Derived.Lib.SmallJoins
namespace Go.Proofs.Ytcieladecjlnpaa
open Go.RowKit Go.Joins StepMath

theorem FnExactLengthCode_over (hA : LengthCodeAnswer) (x : Int) (w : World) (hx : (Lit.int .i64 x).wf = true) :
    Calls Try.prog 7 #[.int .i64 x] w fun e w' => e = .returned (.bool true) ∧ Below w.heap.size w w' := by
  have h1 := fun W => specLenCode x W
  have h2 := fun W => hA x W hx
  generalize (LengthCodeOf x).1 = y1 at h1 h2
  generalize (LengthCodeOf x).2.1 = y2 at h1 h2
  generalize (LengthCodeOf x).2.2 = y3 at h1 h2
  clear hA hx
  have HH2 := hid_of h2
  clear h2
  go_enter Try.func7, Try.ntmps7
  go_wp2_with fail
  refine (h1 _).mono ?_
  rintro e w1 ⟨rfl, rfl⟩
  go_wp2_with fail
  refine (HH2.out _).mono ?_
  rintro e w2 ⟨rfl, hB⟩
  have HB := hid_of hB
  clear hB
  go_wp2_with fail
  go_ret
  exact ⟨rfl, HB.out⟩

theorem FnExactLengthOf_over (hA : LengthOfAnswer) (s x : Int) (w : World) (hs : (Lit.int .i64 s).wf = true) (hx : (Lit.int .i64 x).wf = true) :
    Calls Try.prog 8 #[.int .i64 s, .int .i64 x] w fun e w' => e = .returned (.bool true) ∧ Below w.heap.size w w' := by
  have h1 := fun W => specLenOf s x W
  have h2 := fun W => hA s x W hs hx
  generalize (LengthOfR s x).1 = y1 at h1 h2
  generalize (LengthOfR s x).2 = y2 at h1 h2
  clear hA hx hs
  have HH2 := hid_of h2
  clear h2
  go_enter Try.func8, Try.ntmps8
  go_wp2_with fail
  refine (h1 _).mono ?_
  rintro e w1 ⟨rfl, rfl⟩
  go_wp2_with fail
  refine (HH2.out _).mono ?_
  rintro e w2 ⟨rfl, hB⟩
  have HB := hid_of hB
  clear hB
  cases y2
  all_goals
    go_wp2_with fail
    go_ret
    exact ⟨rfl, HB.out⟩

end Go.Proofs.Ytcieladecjlnpaa
