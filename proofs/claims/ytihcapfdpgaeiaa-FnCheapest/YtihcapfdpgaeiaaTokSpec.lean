/-
  The walk of the document's model of TokenOk.
-/
import Derived.Test.YtihcapfdpgaeiaaRows
import Derived.Test.YtihcapfdpgaeiaaBase
import Derived.Test.YtihcapfdpgaeiaaInWalks
import Derived.Test.YtihcapfdpgaeiaaTokMath
import Derived.WalkKit
import Derived.ProofKit
import Derived.WalkLawsBesides
import Derived.Below
import Derived.Lib.SmallJoins
namespace Go.Proofs.Ytihcapfdpgaeiaa
open Go.RowKit Go.Joins TokMath

/-- What TokenOk answers. -/
def TokPost (x y z : Int) (w : World) (e : Ending) (w' : World) : Prop := e = .returned (.bool (decide (TokRight (x, y, z)))) ∧ Below w.heap.size w w'
theorem TokPost.yes {x y z : Int} {w w' : World} (h : TokRight (x, y, z)) (hb : Below w.heap.size w w') : TokPost x y z w (.returned (.bool true)) w' := ⟨by rw [decide_eq_true h], hb⟩
theorem TokPost.no {x y z : Int} {w w' : World} (h : ¬ TokRight (x, y, z)) (hb : Below w.heap.size w w') : TokPost x y z w (.returned (.bool false)) w' := ⟨by rw [decide_eq_false h], hb⟩
theorem tok_byte (x z : Int) : TokRight (x, 0, z) ↔ (0 ≤ x ∧ x ≤ 255) ∧ z = 0 := by
  unfold TokRight
  rw [if_pos rfl]
theorem tok_rep {x y z : Int} (h : y ≠ 0) : TokRight (x, y, z) ↔ x = 0 ∧ (3 ≤ y ∧ y ≤ 258) ∧ (1 ≤ z ∧ z ≤ 32768) := by
  unfold TokRight
  rw [if_neg h]

set_option maxHeartbeats 800000 in
theorem specTokenOk (x y z : Int) (w : World) : Calls Try.prog 38 #[.agg #[.int .i64 x, .int .i64 y, .int .i64 z]] w (TokPost x y z w) := by
  have HB := hid_of (bstart w (.cells #[.int .i64 x, .int .i64 y, .int .i64 z] 51))
  by_cases h0 : y = 0
  · subst h0
    have HR := hid_of (tok_byte x z)
    by_cases h1 : 0 ≤ x ∧ x ≤ 255
    · have H1 := hid_of h1
      by_cases h2 : z = 0
      · subst h2
        clear h1
        go_enter Try.func38, Try.ntmps38
        go_wp2_with fail
        refine (in_yes _ _ _ _ H1.out.1 H1.out.2).mono ?_
        rintro e w1 ⟨rfl, rfl⟩
        go_wp2_with fail
        go_ret
        exact TokPost.yes (HR.out.mpr ⟨H1.out, trivial⟩) HB.out
      · have d : (z == 0) = false := by simpa using h2
        clear h1
        go_enter Try.func38, Try.ntmps38
        go_wp2_with fail
        refine (in_yes _ _ _ _ H1.out.1 H1.out.2).mono ?_
        rintro e w1 ⟨rfl, rfl⟩
        go_wp2_with fail
        go_ret
        exact TokPost.no (fun h => h2 (HR.out.mp h).2) HB.out
    · have H1 := hid_of h1
      clear h1
      go_enter Try.func38, Try.ntmps38
      go_wp2_with fail
      refine (in_no _ _ _ _ H1.out).mono ?_
      rintro e w1 ⟨rfl, rfl⟩
      go_wp2_with fail
      go_ret
      exact TokPost.no (fun h => H1.out (HR.out.mp h).1) HB.out
  · have d0 : (y == 0) = false := by simpa using h0
    have HR := hid_of (tok_rep (x := x) (z := z) h0)
    by_cases h1 : x = 0
    · subst h1
      by_cases h2 : 3 ≤ y ∧ y ≤ 258
      · have H2 := hid_of h2
        clear h2
        by_cases h3 : 1 ≤ z ∧ z ≤ 32768
        · have H3 := hid_of h3
          clear h3
          go_enter Try.func38, Try.ntmps38
          go_wp2_with fail
          refine (in_yes _ _ _ _ H2.out.1 H2.out.2).mono ?_
          rintro e w1 ⟨rfl, rfl⟩
          go_wp2_with fail
          refine (in_yes _ _ _ _ H3.out.1 H3.out.2).mono ?_
          rintro e w1 ⟨rfl, rfl⟩
          go_wp2_with fail
          go_ret
          exact TokPost.yes (HR.out.mpr ⟨trivial, H2.out, H3.out⟩) HB.out
        · have H3 := hid_of h3
          clear h3
          go_enter Try.func38, Try.ntmps38
          go_wp2_with fail
          refine (in_yes _ _ _ _ H2.out.1 H2.out.2).mono ?_
          rintro e w1 ⟨rfl, rfl⟩
          go_wp2_with fail
          refine (in_no _ _ _ _ H3.out).mono ?_
          rintro e w1 ⟨rfl, rfl⟩
          go_wp2_with fail
          go_ret
          exact TokPost.no (fun h => H3.out (HR.out.mp h).2.2) HB.out
      · have H2 := hid_of h2
        clear h2
        go_enter Try.func38, Try.ntmps38
        go_wp2_with fail
        refine (in_no _ _ _ _ H2.out).mono ?_
        rintro e w1 ⟨rfl, rfl⟩
        go_wp2_with fail
        go_ret
        exact TokPost.no (fun h => H2.out (HR.out.mp h).2.1) HB.out
    · have d : (x == 0) = false := by simpa using h1
      go_enter Try.func38, Try.ntmps38
      go_wp2_with fail
      go_ret
      exact TokPost.no (fun h => h1 (HR.out.mp h).1) HB.out

end Go.Proofs.Ytihcapfdpgaeiaa
