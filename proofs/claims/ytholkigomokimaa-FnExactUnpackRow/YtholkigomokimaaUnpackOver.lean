/-
  The law FnExactUnpackRow: what the model and the program answer, put together.
-/
import Derived.Test.YtholkigomokimaaRows
import Derived.Test.YtholkigomokimaaBase
import Derived.Test.YtholkigomokimaaIntsLib
import Derived.Test.YtholkigomokimaaNumSl
import Derived.Test.YtholkigomokimaaUnpMath
import Derived.Test.YtholkigomokimaaUnpackSpec
import Derived.Test.YtholkigomokimaaUnpackBad
import Derived.Test.YtholkigomokimaaUnpackImpl
import Derived.Test.YtholkigomokimaaUnpackLaw
import Derived.WalkKit
import Derived.ProofKit
import Derived.Below
import Derived.Lib.SmallJoins
namespace Go.Proofs.Ytholkigomokimaa
open Go.RowKit Go.Joins RastMath
theorem FnExactUnpackRow_over (s : ByteArray) (c d : Int) (w : World) (f0 : s.size ≤ maxLen) : Calls Try.prog 6 #[.string s, .int .i64 c, .int .i64 d] w fun e w' => e = .returned (.bool true) ∧ Below w.heap.size w w' := by
  by_cases hs : s.size ≤ 1048576
  · by_cases h : UnpR s c d
    · obtain ⟨h5, hc, hz⟩ := h
      have hr := five_range h5
      obtain ⟨n, rfl⟩ := Int.eq_ofNat_of_zero_le hc.1
      obtain ⟨k, rfl⟩ := Int.eq_ofNat_of_zero_le (show 0 ≤ d by omega)
      refine FnExactUnpackRow_at s n k n (fun j => (smps s k n).getD j 0) true w hs (by omega) (fun w => ?_) (fun w => ?_)
      · refine (specUnpack_good s n k w h5 (by omega) hz).mono ?_
        rintro e w' ⟨v, rfl, hN, hB⟩
        obtain ⟨a, cp, rfl, _, _, hC, _⟩ := hN.form
        rw [smps_length] at hC
        refine ⟨a, cp, by rw [smps_length], hC, fun g off e => ?_, hB⟩
        rcases hN.2 with ⟨h0, _⟩ | ⟨g', cap, cur, h0, hb, hg, _⟩
        · injection h0 with h1
          rw [h1] at e
          cases e
        · injection h0 with h1
          rw [h1] at e
          cases e
          exact block_lt hg
      · refine (implUnpack_good s n k w h5 (by omega) hz).mono ?_
        rintro e w' ⟨g, rfl, hO, hB⟩
        refine ⟨_, _, rfl, (hO.congr fun i hi => ?_).sl, hB⟩
        simp [smps, List.getD_eq_getElem?_getD, hi]
    · refine FnExactUnpackRow_at s c d 0 (fun _ => 0) false w hs (by omega) (fun w => ?_) (fun w => ?_)
      · refine (specUnpack_bad s c d w h).mono ?_
        rintro e w' ⟨am, cp, rfl, hg, hB⟩
        exact ⟨am, cp, rfl, .inl rfl, hg, hB⟩
      · refine (implUnpack_bad s c d w h).mono ?_
        rintro e w' ⟨rfl, hB⟩
        exact ⟨none, 0, rfl, .inl rfl, hB⟩
  · exact FnExactUnpackRow_big s c d w hs f0
theorem unpackRow_law (s : ByteArray) (c d : Int) (w : World) (f0 : s.size ≤ maxLen) (_ : (Lit.int .i64 c).wf = true) (_ : (Lit.int .i64 d).wf = true) : Calls Try.prog 6 #[.string s, .int .i64 c, .int .i64 d] w fun e w' => e = .returned (.bool true) ∧ Below w.heap.size w w' := FnExactUnpackRow_over s c d w f0
end Go.Proofs.Ytholkigomokimaa
