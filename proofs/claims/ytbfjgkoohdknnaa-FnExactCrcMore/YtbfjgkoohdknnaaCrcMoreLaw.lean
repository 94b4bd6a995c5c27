/-
  The walk of the law FnExactCrcMore, over what the program's CrcMore answers.
-/
import Derived.Test.YtbfjgkoohdknnaaRows
import Derived.Test.YtbfjgkoohdknnaaBase
import Derived.Test.YtbfjgkoohdknnaaCrcMath
import Derived.Test.YtbfjgkoohdknnaaCrcSpec
import Derived.WalkKit
import Derived.ProofKit
import Derived.OpenShut
import Derived.ShutString
import Derived.ChangeOld
import Derived.Below
import Derived.Lib.SmallJoins
namespace Go.Proofs.Ytbfjgkoohdknnaa
open Go.ChangeShapes Go.WideShapes Go.ChangeAt Go.RowKit Go.Joins CrcMath
open Go.ChangeMaps (open_string shut_string)

def CrcMoreAnswer : Prop := ∀ (x : Nat) (s : ByteArray) (w : World), x < 4294967296 → s.size ≤ 1048576 → Calls Try.prog 28 #[.int .u32 (x : Int), .string s] w fun e w' => e = .returned (.int .u32 (crc x s : Int)) ∧ Below w.heap.size w w'

theorem FnExactCrcMore_over (hA : CrcMoreAnswer) (x0 : Int) (s : ByteArray) (w : World) (hx : (Lit.int .u32 x0).wf = true) (hs0 : s.size ≤ maxLen) :
    Calls Try.prog 7 #[.int .u32 x0, .string s] w fun e w' => e = .returned (.bool true) ∧ Below w.heap.size w w' := by
  obtain ⟨h0, h1⟩ := bounds_u32 hx
  obtain ⟨x, rfl⟩ := Int.eq_ofNat_of_zero_le h0
  unfold maxLen at hs0
  have HA : Hid CrcMoreAnswer := hA
  clear hA
  by_cases hs : (s.size : Int) ≤ 1048576
  · go_enter Try.func7, Try.ntmps7
    go_wp2_with fail
    refine (specCrcMore x s _ (by omega) (by omega)).mono ?_
    rintro e w1 ⟨rfl, rfl⟩
    go_wp2_with fail
    refine (HA.out x s _ (by omega) (by omega)).mono ?_
    rintro e w1 ⟨rfl, hb1⟩
    go_wp2_with fail
    go_ret
    exact ⟨rfl, hb1⟩
  · have d : (1048576 : Int) < (s.size : Int) := by omega
    go_enter Try.func7, Try.ntmps7
    go_wp2_with fail
    go_ret
    exact ⟨rfl, Below.refl _ _⟩

end Go.Proofs.Ytbfjgkoohdknnaa
