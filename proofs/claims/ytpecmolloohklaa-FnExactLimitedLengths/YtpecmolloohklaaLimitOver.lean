/-
  The law FnExactLimitedLengths, over what the program's LimitedLengths answers.
-/
import Derived.Test.YtpecmolloohklaaRows
import Derived.Test.YtpecmolloohklaaBase
import Derived.Test.YtpecmolloohklaaRowLib
import Derived.Test.YtpecmolloohklaaIntsLib
import Derived.Test.YtpecmolloohklaaLimitMath
import Derived.Test.YtpecmolloohklaaLimitAns
import Derived.Test.YtpecmolloohklaaLimitSpec
import Derived.Test.YtpecmolloohklaaLimitedLengthsLaw
import Derived.WalkKit
import Derived.ProofKit
import Derived.Below
import Derived.Lib.SmallJoins
namespace Go.Proofs.Ytpecmolloohklaa
open Go.RowKit Go.Joins PackageMath

theorem FnExactLimitedLengths_over (hA : LimitAnswer) (a : Option Addr) (len cap : Nat) (zs : List Int) (z : Int) (w : World) (hr : IsRow .i64 w a len cap zs) (hz : (Lit.int .i64 z).wf = true) :
    Calls Try.prog 6 #[.slice a len cap, .int .i64 z] w fun e w' => e = .returned (.bool true) ∧ Below w.heap.size w w' := by
  obtain ⟨hC, hl, hf⟩ := came_of_row hr
  by_cases h : (len : Int) ≤ 1048576
  · by_cases hG : LimitRight (fun j => zs.getD j 0) len z
    · obtain ⟨k, rfl⟩ := Int.eq_ofNat_of_zero_le (show 0 ≤ z by have := hG.2.1; omega)
      refine FnExactLimitedLengths_at a len cap len _ (limLen (fun j => zs.getD j 0) len (k : Int)) true w hC h (by omega) (k : Int) (fun a cap w q => ?_) (fun a cap w q => ?_)
      · refine (specLimit_good a len cap _ k w q hG).mono ?_
        rintro e w1 ⟨rfl, h1, h2⟩
        exact ⟨_, len, rfl, h1.sl.came, fun g off e => by cases e; exact h1.lt, h2⟩
      · exact (hA a len cap _ (k : Int) w q (by omega) hf hz).1 hG
    · refine FnExactLimitedLengths_at a len cap 0 _ (fun _ => 0) false w hC h (by omega) z (fun a cap w q => ?_) (fun a cap w q => ?_)
      · refine (specLimit_bad a len cap _ z w q (by omega) hG).mono ?_
        rintro e w1 ⟨g, rfl, h1, h2⟩
        exact ⟨_, 0, rfl, .inl rfl, fun g' off e => by cases e; exact h1, h2⟩
      · refine ((hA a len cap _ z w q (by omega) hf hz).2 hG).mono ?_
        rintro e w1 ⟨a', cap', rfl, h2⟩
        exact ⟨a', cap', rfl, .inl rfl, h2⟩
  · exact FnExactLimitedLengths_big a len cap z w h hl

end Go.Proofs.Ytpecmolloohklaa
