/-
  What the program's StoredBlock is to answer.
-/
import Derived.Test.YtbcnlggkoidmmaaRows
import Derived.Test.YtbcnlggkoidmmaaBlkAns
import Derived.WalkKit
namespace Go.Proofs.Ytbcnlggkoidmmaa
open Go.RowKit

/-- What the program's StoredBlock is to answer. -/
def StoredAnswer : Prop := ∀ (s : ByteArray) (c : Int) (t : ByteArray) (last : Bool) (w : World), s.size ≤ 1048576 → -9223372036854775808 ≤ c → c ≤ 9223372036854775807 → t.size ≤ 1048576 →
  Calls Try.prog 18 #[.agg #[.string s, .int .i64 c], .string t, .bool last] w fun e w' => e = .returned (blkAns (storedOut s c t last)) ∧ Below w.heap.size w w'

end Go.Proofs.Ytbcnlggkoidmmaa
