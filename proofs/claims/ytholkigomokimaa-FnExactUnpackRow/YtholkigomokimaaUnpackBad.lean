/-
  The walk of the document's model of rows: where a text can't be read.
-/
import Derived.Test.YtholkigomokimaaRows
import Derived.Test.YtholkigomokimaaBase
import Derived.Test.YtholkigomokimaaInWalks
import Derived.Test.YtholkigomokimaaRastMath
import Derived.Test.YtholkigomokimaaRastSpec
import Derived.Test.YtholkigomokimaaUnpMath
import Derived.WalkKit
import Derived.ProofKit
import Derived.WalkLawsBesides
import Derived.Below
import Derived.Lib.SmallJoins
namespace Go.Proofs.Ytholkigomokimaa
open Go.RowKit Go.Joins RastMath
theorem specUnpack_bad (s : ByteArray) (c d : Int) (w : World) (h : ¬ UnpR s c d) :
    Calls Try.prog 25 #[.string s, .int .i64 c, .int .i64 d] w fun e w' => ∃ (am : Option Addr) (cap' : Nat), e = .returned (.tuple #[.slice am 0 cap', .bool false]) ∧ (∀ g off, am = some ⟨g, off, none⟩ → g < w'.heap.size) ∧ Below w.heap.size w w' := by
  have hk := specDepth5 d
  have HB := hid_of (bstart w (.cells #[] 3))
  have HE : Hid (∀ (g off : Nat), (some ⟨w.heap.size, 0, none⟩ : Option Addr) = some ⟨g, off, none⟩ → g < (w.alloc (.cells #[] 3)).heap.size) := by
    intro g off e
    cases e
    simp
  by_cases h5 : Five d
  · rw [decide_eq_true h5] at hk
    by_cases hc : 0 ≤ c ∧ c ≤ 96
    · have hne : ¬ (s.size : Int) = (c * d + 7) / 8 := fun e => h ⟨h5, hc, e⟩
      have hr := five_range h5
      obtain ⟨q, hq⟩ : ∃ q, q = c * d := ⟨_, rfl⟩
      have hqb : 0 ≤ q ∧ q ≤ 1536 := by
        have m1 := Int.mul_nonneg hc.1 (show 0 ≤ d by omega)
        have m2 := Int.mul_le_mul hc.2 hr.2 (by omega) (by omega)
        omega
      rw [← hq] at hne
      have hqs := hq.symm
      have d2 : ((s.size : Int) == (q + 7) / 8) = false := beq_no hne
      have d3 : ((s.size : Int) != (q + 7) / 8) = true := by simpa using hne
      have d4 : decide ((s.size : Int) = (q + 7) / 8) = false := decide_eq_false hne
      have hin := fun W => in_yes c 0 96 W hc.1 hc.2
      clear h h5 hne hq
      go_enter Try.func25, Try.ntmps25
      go_wp2_with fail
      refine (hk _).mono ?_
      rintro e w1 ⟨rfl, rfl⟩
      go_wp2_with fail
      refine (hin _).mono ?_
      rintro e w1 ⟨rfl, rfl⟩
      go_wp2_with fail
      refine bodyPost_ret (v := .tuple #[.slice (some ⟨w.heap.size, 0, none⟩) 0 0, .bool false]) ?_ rfl ⟨_, _, rfl, HE.out, HB.out⟩
      simp [results, Try.results25, go_sem]
    · have hin := fun W => in_no c 0 96 W hc
      clear h h5 hc
      go_enter Try.func25, Try.ntmps25
      go_wp2_with fail
      refine (hk _).mono ?_
      rintro e w1 ⟨rfl, rfl⟩
      go_wp2_with fail
      refine (hin _).mono ?_
      rintro e w1 ⟨rfl, rfl⟩
      go_wp2_with fail
      refine bodyPost_ret (v := .tuple #[.slice (some ⟨w.heap.size, 0, none⟩) 0 0, .bool false]) ?_ rfl ⟨_, _, rfl, HE.out, HB.out⟩
      simp [results, Try.results25, go_sem]
  · rw [decide_eq_false h5] at hk
    clear h h5
    go_enter Try.func25, Try.ntmps25
    go_wp2_with fail
    refine (hk _).mono ?_
    rintro e w1 ⟨rfl, rfl⟩
    go_wp2_with fail
    refine bodyPost_ret (v := .tuple #[.slice (some ⟨w.heap.size, 0, none⟩) 0 0, .bool false]) ?_ rfl ⟨_, _, rfl, HE.out, HB.out⟩
    simp [results, Try.results25, go_sem]
end Go.Proofs.Ytholkigomokimaa
