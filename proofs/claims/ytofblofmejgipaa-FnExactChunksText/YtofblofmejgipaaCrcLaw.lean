/-
  The walk of the law FnExactCrc, over what the program's Crc answers.
-/
import Derived.Test.YtofblofmejgipaaRows
import Derived.Test.YtofblofmejgipaaBase
import Derived.Test.YtofblofmejgipaaCrcMath
import Derived.Test.YtofblofmejgipaaCrcSpec
import Derived.WalkKit
import Derived.ProofKit
import Derived.OpenShut
import Derived.ShutString
import Derived.ChangeOld
import Derived.Below
import Derived.Lib.SmallJoins
namespace Go.Proofs.Ytofblofmejgipaa
open Go.ChangeShapes Go.WideShapes Go.ChangeAt Go.RowKit Go.Joins CrcMath
open Go.ChangeMaps (open_string shut_string)

set_option maxHeartbeats 400000 in
theorem specCrc (s : ByteArray) (w : World) (hs : s.size ≤ 1048576) :
    Calls Try.prog 33 #[.string s] w fun e w' => e = .returned (.int .u32 (crc 0 s : Int)) ∧ w' = w := by
  go_enter Try.func33, Try.ntmps33
  go_wp2_with fail
  refine (specCrcMore 0 s _ (by omega) hs).mono ?_
  rintro e w1 ⟨rfl, rfl⟩
  go_wp2_with fail
  go_ret
  exact ⟨rfl, rfl⟩

def CrcAnswer : Prop := ∀ (s : ByteArray) (w : World), s.size ≤ 1048576 → Calls Try.prog 58 #[.string s] w fun e w' => e = .returned (.int .u32 (crc 0 s : Int)) ∧ Below w.heap.size w w'

end Go.Proofs.Ytofblofmejgipaa
