/-
  A byte of a text, read.
-/
import Derived.Test.YtbomnhpkehfdoaaRows
import Derived.Test.YtbomnhpkehfdoaaBase
import Derived.Test.YtbomnhpkehfdoaaRetLib
import Derived.Test.YtbomnhpkehfdoaaTakeMath
import Derived.WalkKit
import Derived.ProofKit
import Derived.WalkLawsBesides
import Derived.Lib.SmallJoins
namespace Go.Proofs.Ytbomnhpkehfdoaa
open Go.RowKit Go.Joins TakeMath

theorem index_byte (s : ByteArray) (i : Nat) (h : i < s.size) (w : World) : (Instr.index 9 (.string s) (.int .i64 i)).run Try.prog w = .ok (.int .u8 (byteAt s i)) w := by
  rw [run_index_string w 9 s .i64 _ Try.underlying9, dif_pos ⟨by omega, by omega⟩]
  have e : ((i : Int)).toNat = i := by omega
  simp only [e]
  rw [byteAt_get]

theorem index_byteI (s : ByteArray) (x : Int) (i : Nat) (hx : x = i) (h : i < s.size) (w : World) : (Instr.index 9 (.string s) (.int .i64 x)).run Try.prog w = .ok (.int .u8 (byteAt s i)) w := by
  subst hx
  exact index_byte s i h w

end Go.Proofs.Ytbomnhpkehfdoaa
