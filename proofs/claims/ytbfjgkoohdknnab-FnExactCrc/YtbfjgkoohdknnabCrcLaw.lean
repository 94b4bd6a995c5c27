/-
  The walk of the law FnExactCrc, over what the program's Crc answers.
-/
import Derived.Test.YtbfjgkoohdknnabRows
import Derived.Test.YtbfjgkoohdknnabBase
import Derived.Test.YtbfjgkoohdknnabCrcMath
import Derived.Test.YtbfjgkoohdknnabCrcSpec
import Derived.WalkKit
import Derived.ProofKit
import Derived.OpenShut
import Derived.ShutString
import Derived.ChangeOld
import Derived.Below
import Derived.Lib.SmallJoins
namespace Go.Proofs.Ytbfjgkoohdknnab
open Go.ChangeShapes Go.WideShapes Go.ChangeAt Go.RowKit Go.Joins CrcMath
open Go.ChangeMaps (open_string shut_string)

set_option maxHeartbeats 400000 in
theorem specCrc (s : ByteArray) (w : World) (hs : s.size ≤ 1048576) :
    Calls Try.prog 7 #[.string s] w fun e w' => e = .returned (.int .u32 (crc 0 s : Int)) ∧ w' = w := by
  go_enter Try.func7, Try.ntmps7
  go_wp2_with fail
  refine (specCrcMore 0 s _ (by omega) hs).mono ?_
  rintro e w1 ⟨rfl, rfl⟩
  go_wp2_with fail
  go_ret
  exact ⟨rfl, rfl⟩

def CrcAnswer : Prop := ∀ (s : ByteArray) (w : World), s.size ≤ 1048576 → Calls Try.prog 8 #[.string s] w fun e w' => e = .returned (.int .u32 (crc 0 s : Int)) ∧ Below w.heap.size w w'

theorem FnExactCrc_over (hA : CrcAnswer) (s : ByteArray) (w : World) (hs0 : s.size ≤ maxLen) :
    Calls Try.prog 3 #[.string s] w fun e w' => e = .returned (.bool true) ∧ Below w.heap.size w w' := by
  unfold maxLen at hs0
  have HA : Hid CrcAnswer := hA
  clear hA
  by_cases hs : (s.size : Int) ≤ 1048576
  · go_enter Try.func3, Try.ntmps3
    go_wp2_with fail
    refine (specCrc s _ (by omega)).mono ?_
    rintro e w1 ⟨rfl, rfl⟩
    go_wp2_with fail
    refine (HA.out s _ (by omega)).mono ?_
    rintro e w1 ⟨rfl, hb1⟩
    go_wp2_with fail
    go_ret
    exact ⟨rfl, hb1⟩
  · have d : (1048576 : Int) < (s.size : Int) := by omega
    go_enter Try.func3, Try.ntmps3
    go_wp2_with fail
    go_ret
    exact ⟨rfl, Below.refl _ _⟩

end Go.Proofs.Ytbfjgkoohdknnab
