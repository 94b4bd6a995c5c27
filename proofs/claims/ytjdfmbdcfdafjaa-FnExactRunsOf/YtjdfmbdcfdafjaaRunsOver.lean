/-
  The laws FnExactRunsOf and FnExactExtraBits, over what the program answers.
-/
import Derived.Test.YtjdfmbdcfdafjaaRows
import Derived.Test.YtjdfmbdcfdafjaaBase
import Derived.Test.YtjdfmbdcfdafjaaRowLib
import Derived.Test.YtjdfmbdcfdafjaaIntsLib
import Derived.Test.YtjdfmbdcfdafjaaCodeMath
import Derived.Test.YtjdfmbdcfdafjaaRunsMath
import Derived.Test.YtjdfmbdcfdafjaaRunsAns
import Derived.Test.YtjdfmbdcfdafjaaRunsOfLaw
import Derived.WalkKit
import Derived.ProofKit
import Derived.Below
import Derived.Lib.SmallJoins
namespace Go.Proofs.Ytjdfmbdcfdafjaa
open Go.RowKit Go.Joins CodeMath RunsMath

theorem FnExactRunsOf_over (hA : RunsAnswer) (a : Option Addr) (len cap : Nat) (zs : List Int) (w : World) (hr : IsRow .i64 w a len cap zs) :
    Calls Try.prog 4 #[.slice a len cap] w fun e w' => e = .returned (.bool true) ∧ Below w.heap.size w w' := by
  obtain ⟨hC, hl, hf⟩ := came_of_row hr
  by_cases h : (len : Int) ≤ 1048576
  · by_cases hG : RunsRight (fun j => zs.getD j 0) len
    · have hlen := rest_length (fun j => zs.getD j 0) len len 0 (by omega)
      refine FnExactRunsOf_at a len cap (rest (fun j => zs.getD j 0) len 0).length _ (fun j => (rest (fun j => zs.getD j 0) len 0).getD j (0, 0)) true w hC h (by omega) (fun a cap w q => ?_) (fun a cap w q => ?_)
      · refine (specRuns_good a len cap _ w q hG).mono ?_
        rintro e w1 ⟨v, rfl, h1, h2⟩
        obtain ⟨a1, c1, rfl, h3⟩ := dsl_of_own h1 rfl
        refine ⟨a1, c1, rfl, h3.came, fun g off e => ?_, h2⟩
        subst e
        rcases h1.2 with ⟨e, _⟩ | ⟨g', cap', cur, e, _, hg, _⟩
        · cases e
        · cases e
          exact block_lt hg
      · refine ((hA a len cap _ w q (by omega) hf).1 hG).mono ?_
        rintro e w1 ⟨a', cap', rfl, h1, _, h2⟩
        exact ⟨a', cap', rfl, h1, h2⟩
    · refine FnExactRunsOf_at a len cap 0 _ (fun _ => (0, 0)) false w hC h (by omega) (fun a cap w q => ?_) (fun a cap w q => ?_)
      · refine (specRuns_bad a len cap _ w q (by omega) hG).mono ?_
        rintro e w1 ⟨rfl, rfl⟩
        exact ⟨_, 0, rfl, .inl rfl, fun g off e => by cases e; simp, bstart _ _⟩
      · refine ((hA a len cap _ w q (by omega) hf).2 hG).mono ?_
        rintro e w1 ⟨a', cap', rfl, h2⟩
        exact ⟨a', cap', rfl, .inl rfl, h2⟩
  · exact FnExactRunsOf_big a len cap w h hl

theorem FnExactExtraBits_over (hA : BitsAnswer) (x : Int) (w : World) (hx : (Lit.int .i64 x).wf = true) :
    Calls Try.prog 6 #[.int .i64 x] w fun e w' => e = .returned (.bool true) ∧ Below w.heap.size w w' := by
  have h1 := fun W => specBits x W
  have h2 := fun W => hA x W hx
  generalize ((bitsOf x : Nat) : Int) = y at h1 h2
  clear hA hx
  have HH2 := hid_of h2
  clear h2
  go_enter Try.func6, Try.ntmps6
  go_wp2_with fail
  refine (h1 _).mono ?_
  rintro e w1 ⟨rfl, rfl⟩
  go_wp2_with fail
  refine (HH2.out _).mono ?_
  rintro e w2 ⟨rfl, k, os, rfl⟩
  have HB := hid_of (below_grow2 (w := w1) k os)
  go_wp2_with fail
  go_ret
  exact ⟨rfl, HB.out⟩

end Go.Proofs.Ytjdfmbdcfdafjaa
