/-
  The walk of the model's draw of a rare case.
-/
import Derived.Test.YtholkigomokimaaRows
import Derived.Test.YtholkigomokimaaBase
import Derived.Test.YtholkigomokimaaDrawLib
import Derived.WalkKit
import Derived.ProofKit
import Derived.WalkLawsBesides
import Derived.Deep.QuietTactic
import Derived.BigQuiet
import Derived.OpenShut
import Derived.Lib.SmallJoins
namespace Go.Proofs.Ytholkigomokimaa
open Go.RowKit Go.Joins

theorem draw_once (base b : Nat) (n : Int) (w : World) (hC : Cur w base b) :
    Calls Try.prog 55 #[.pointer (some ⟨b, 0, none⟩), .int .i64 n] w fun e w' => ∃ x : Bool, e = .returned (.bool x) ∧ Cur w' base b ∧ w.grownBy w' (some b) := by
  have HC : Hid (Cur w base b) := hC
  clear hC
  go_enter Try.func55, Try.ntmps55
  go_wp2_with fail
  refine (draw_below base b n _ HC.out).mono ?_
  rintro e w1 ⟨x, rfl, hx, hC1, hg1⟩
  have HC1 : Hid (Cur w1 base b) := hC1
  clear hC1 hx
  go_wp2_with fail
  go_ret
  exact ⟨_, rfl, HC1.out, hg1⟩

end Go.Proofs.Ytholkigomokimaa
