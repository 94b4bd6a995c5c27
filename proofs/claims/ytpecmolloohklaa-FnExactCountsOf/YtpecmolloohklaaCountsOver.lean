/-
  The law FnExactCountsOf, over what the program's CountsOf answers.
-/
import Derived.Test.YtpecmolloohklaaRows
import Derived.Test.YtpecmolloohklaaBase
import Derived.Test.YtpecmolloohklaaRowLib
import Derived.Test.YtpecmolloohklaaIntsLib
import Derived.Test.YtpecmolloohklaaCodeMath
import Derived.Test.YtpecmolloohklaaCountsAns
import Derived.Test.YtpecmolloohklaaCountsSpec
import Derived.Test.YtpecmolloohklaaCountsOfLaw
import Derived.WalkKit
import Derived.ProofKit
import Derived.Below
import Derived.Lib.SmallJoins
namespace Go.Proofs.Ytpecmolloohklaa
open Go.RowKit Go.Joins CodeMath

theorem FnExactCountsOf_over (hA : CountsAnswer) (a : Option Addr) (len cap : Nat) (zs : List Int) (z : Int) (w : World) (hr : IsRow .i64 w a len cap zs) (hz : (Lit.int .i64 z).wf = true) :
    Calls Try.prog 5 #[.slice a len cap, .int .i64 z] w fun e w' => e = .returned (.bool true) ∧ Below w.heap.size w w' := by
  obtain ⟨hC, hl, hf⟩ := came_of_row hr
  by_cases h : (len : Int) ≤ 1048576
  · by_cases hG : CountsRight (fun j => zs.getD j 0) len z
    · obtain ⟨k, rfl⟩ := Int.eq_ofNat_of_zero_le (show 0 ≤ z by have := hG.1; omega)
      have hk : k ≤ 288 := by have := hG.2.1; omega
      refine FnExactCountsOf_at a len cap k _ (fun s => cntS (fun j => zs.getD j 0) (s : Nat) len) true w hC h (by omega) (k : Int) (fun a cap w q => ?_) (fun a cap w q => ?_)
      · refine (specCounts_good a len cap _ k w q hG).mono ?_
        rintro e w1 ⟨rfl, h1, h2⟩
        exact ⟨_, k, rfl, h1.sl.came, fun g off e => by cases e; exact h1.lt, h2⟩
      · exact (hA a len cap _ (k : Int) w q (by omega) hf hz).1 hG
    · refine FnExactCountsOf_at a len cap 0 _ (fun _ => 0) false w hC h (by omega) z (fun a cap w q => ?_) (fun a cap w q => ?_)
      · refine (specCounts_bad a len cap _ z w q (by omega) hG).mono ?_
        rintro e w1 ⟨g, rfl, h1, h2⟩
        exact ⟨_, 0, rfl, .inl rfl, fun g' off e => by cases e; exact h1, h2⟩
      · refine ((hA a len cap _ z w q (by omega) hf hz).2 hG).mono ?_
        rintro e w1 ⟨a', cap', rfl, h2⟩
        exact ⟨a', cap', rfl, .inl rfl, h2⟩
  · exact FnExactCountsOf_big a len cap z w h hl

end Go.Proofs.Ytpecmolloohklaa
