/-
  The walk of the program's Crc of a text.
-/
import Derived.Test.YtofblofmejgipaaRows
import Derived.Test.YtofblofmejgipaaBase
import Derived.Test.YtofblofmejgipaaCrcMath
import Derived.Test.YtofblofmejgipaaCrcImpl
import Derived.WalkKit
import Derived.ProofKit
import Derived.Lib.SmallJoins
namespace Go.Proofs.Ytofblofmejgipaa
open Go.RowKit Go.Joins CrcMath

set_option maxHeartbeats 400000 in
theorem implCrc (s : ByteArray) (w : World) (hs : s.size ≤ 1048576) :
    Calls Try.prog 58 #[.string s] w fun e w' => e = .returned (.int .u32 (crc 0 s : Int)) ∧ Below w.heap.size w w' := by
  go_enter Try.func58, Try.ntmps58
  go_wp2_with fail
  refine (implCrcMore 0 s _ (by omega) hs).mono ?_
  rintro e w1 ⟨rfl, hb⟩
  go_wp2_with fail
  go_ret
  exact ⟨rfl, hb⟩

end Go.Proofs.Ytofblofmejgipaa
