/-
  The walks of one bit taken by the program's reader.
-/
import Derived.Test.YtbomnhpkehfdoaaRows
import Derived.Test.YtbomnhpkehfdoaaBase
import Derived.Test.YtbomnhpkehfdoaaOutMath
import Derived.Test.YtbomnhpkehfdoaaReaderCore
import Derived.Test.YtbomnhpkehfdoaaTakeMath
import Derived.Test.YtbomnhpkehfdoaaTakeHelp
import Derived.WalkKit
import Derived.ProofKit
import Derived.WalkLawsBesides
import Derived.RegionTactic
import Derived.Deep.QuietTactic
import Derived.BigQuiet
import Derived.Lib.SmallJoins
namespace Go.Proofs.Ytbomnhpkehfdoaa
open Go.RowKit Go.Joins OutMath TakeMath

set_option maxHeartbeats 400000 in
theorem takeBit_yes (s : ByteArray) (a : Nat) (b : Nat) (w : World) (hR : Rd w b s a) (hs : s.size ≤ 12000) (ha : a < 8 * s.size) :
    Calls Try.prog 32 #[.pointer (some ⟨b, 0, none⟩)] w fun e w' => e = .returned (.int .i64 (bit s a)) ∧ Rd w' b s ((a + 1 : Nat) : Int) ∧ Below b w w' := by
  have c0 := hR.c0
  have c1 := hR.c1
  have hlt := hR.lt
  have f0 := hR.f
  have hset := fun (n : Nat) => Rd.set (w := w.drewN n) hR ((a : Int) + 1)
  have HS : Hid (∀ n : Nat, Rd ((w.drewN n).setCell ⟨b, 1, none⟩ (.int .i64 ((a : Int) + 1))) b s ((a : Int) + 1)) := hset
  clear hR hset
  have d : decide (8 * (s.size : Int) ≤ (a : Int)) = false := by simp; omega
  have hix := index_byteI s ((a : Int) / 8) (a / 8) (by omega) (by omega)
  have hy := byteAt_lt s (a / 8)
  have HB : Hid (bits .and .i64 (wrap64 ((byteAt s (a / 8) : Int) / 2 ^ (a % 8))) 1 = bit s a) := bit_and s a
  have q1 : (a : Int).tdiv 8 = (a : Int) / 8 := Int.tdiv_eq_ediv_of_nonneg (by omega)
  have q2 : (a : Int).tmod 8 = (a : Int) % 8 := Int.tmod_eq_emod_of_nonneg (by omega)
  have q3 : IntKind.i64.wrap ((a : Int) / 8) = (a : Int) / 8 := by rw [IntKind.wrap_i64]; omega
  go_enter Try.func32, Try.ntmps32
  go_wp2
  go_quiet (fail)
  go_wp2
  go_quiet (fail)
  go_wp2
  go_ret
  exact ⟨ret_i HB.out, HS.out _, Below.setCell (p := ⟨b, 1, none⟩) (below_draws _ _ _) (Nat.le_refl b) _⟩

set_option maxHeartbeats 400000 in
theorem takeBit_no (s : ByteArray) (a : Int) (b : Nat) (w : World) (hR : Rd w b s a) (hs : s.size ≤ 12000) (ha : 8 * s.size ≤ a) :
    Calls Try.prog 32 #[.pointer (some ⟨b, 0, none⟩)] w fun e w' => e = .panicked [{ v := .iface 61 (.agg #[]), recovered := false }] ∧ Below b w w' := by
  have c0 := hR.c0
  have c1 := hR.c1
  have hlt := hR.lt
  clear hR
  have d : decide (8 * (s.size : Int) ≤ a) = true := by simpa using ha
  go_enter Try.func32, Try.ntmps32
  go_wp2
  go_quiet (fail)
  go_wp2
  exact ⟨rfl, rfl, below_draws _ _ _⟩

end Go.Proofs.Ytbomnhpkehfdoaa
