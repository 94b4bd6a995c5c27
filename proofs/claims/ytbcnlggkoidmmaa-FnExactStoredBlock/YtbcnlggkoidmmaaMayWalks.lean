/-
  The walks of what tells whether bits may be put, in the document's model and in the program.
-/
import Derived.Test.YtbcnlggkoidmmaaRows
import Derived.Test.YtbcnlggkoidmmaaBase
import Derived.Test.YtbcnlggkoidmmaaOutMath
import Derived.Test.YtbcnlggkoidmmaaOutWalks
import Derived.Test.YtbcnlggkoidmmaaInWalks
import Derived.Test.YtbcnlggkoidmmaaPutLib
import Derived.WalkKit
import Derived.ProofKit
import Derived.WalkLawsBesides
import Derived.Lib.SmallJoins
namespace Go.Proofs.Ytbcnlggkoidmmaa
open Go.RowKit Go.Joins OutMath

set_option maxHeartbeats 400000 in
theorem l01May_yes (s : ByteArray) (c x n : Int) (w : World) (hs : s.size ≤ maxLen) (hc1 : -9223372036854775808 ≤ c) (hc2 : c ≤ 9223372036854775807) (h : May s c x n) :
    Calls Try.prog 80 #[.agg #[.string s, .int .i64 c], .int .i64 x, .int .i64 n] w fun e w' => e = .returned (.bool true) ∧ Below w.heap.size w w' := by
  obtain ⟨h1, h2, h3, h4, h5, h6⟩ := h
  have hp := p2_61 (n := n.toNat) (by omega)
  have hq := p2_pos n.toNat
  have d1 : decide (c ≤ 96000 - n) = true := by simp; omega
  go_enter Try.func80, Try.ntmps80
  go_wp2_with fail
  refine (specOut_any s c _ hs hc1 hc2).mono ?_
  rintro e w1 ⟨rfl, hb1⟩
  rw [h1]
  obtain ⟨k1, f1⟩ := bcell hb1
  go_wp2_with fail
  refine (in_yes _ _ _ _ (by omega) (by omega)).mono ?_
  rintro e w2 ⟨rfl, rfl⟩
  go_wp2_with fail
  refine (pow_int _ _ (by omega) (by omega)).mono ?_
  rintro e w2 ⟨rfl, rfl⟩
  go_wp2_with fail
  refine (in_yes _ _ _ _ (by omega) (by omega)).mono ?_
  rintro e w2 ⟨rfl, rfl⟩
  go_wp2_with fail
  go_ret
  exact ⟨rfl, bnext (bstart _ _) hb1⟩

set_option maxHeartbeats 800000 in
theorem l01May_no (s : ByteArray) (c x n : Int) (w : World) (hs : s.size ≤ maxLen) (hc1 : -9223372036854775808 ≤ c) (hc2 : c ≤ 9223372036854775807) (h : ¬ May s c x n) :
    Calls Try.prog 80 #[.agg #[.string s, .int .i64 c], .int .i64 x, .int .i64 n] w fun e w' => e = .returned (.bool false) ∧ Below w.heap.size w w' := by
  unfold May at h
  cases h1 : outB s c
  · clear h
    go_enter Try.func80, Try.ntmps80
    go_wp2_with fail
    refine (specOut_any s c _ hs hc1 hc2).mono ?_
    rintro e w1 ⟨rfl, hb1⟩
    rw [h1]
    go_wp2_with fail
    go_ret
    exact ⟨rfl, bnext (bstart _ _) hb1⟩
  · by_cases h2 : 0 ≤ n ∧ n ≤ 24
    · obtain ⟨h3, h4⟩ := h2
      have hp := p2_61 (n := n.toNat) (by omega)
      have hq := p2_pos n.toNat
      by_cases h5 : 0 ≤ x ∧ x ≤ p2 n.toNat - 1
      · have d1 : decide (c ≤ 96000 - n) = false := by
          simp
          refine Classical.byContradiction fun hh => h ⟨h1, h3, h4, h5.1, by omega, by omega⟩
        clear h
        go_enter Try.func80, Try.ntmps80
        go_wp2_with fail
        refine (specOut_any s c _ hs hc1 hc2).mono ?_
        rintro e w1 ⟨rfl, hb1⟩
        rw [h1]
        obtain ⟨k1, f1⟩ := bcell hb1
        go_wp2_with fail
        refine (in_yes _ _ _ _ (by omega) (by omega)).mono ?_
        rintro e w2 ⟨rfl, rfl⟩
        go_wp2_with fail
        refine (pow_int _ _ (by omega) (by omega)).mono ?_
        rintro e w2 ⟨rfl, rfl⟩
        go_wp2_with fail
        refine (in_yes _ _ _ _ (by omega) (by omega)).mono ?_
        rintro e w2 ⟨rfl, rfl⟩
        go_wp2_with fail
        go_ret
        exact ⟨rfl, bnext (bstart _ _) hb1⟩
      · have H5 : Hid (¬ (0 ≤ x ∧ x ≤ p2 n.toNat - 1)) := h5
        clear h h5
        go_enter Try.func80, Try.ntmps80
        go_wp2_with fail
        refine (specOut_any s c _ hs hc1 hc2).mono ?_
        rintro e w1 ⟨rfl, hb1⟩
        rw [h1]
        go_wp2_with fail
        refine (in_yes _ _ _ _ (by omega) (by omega)).mono ?_
        rintro e w2 ⟨rfl, rfl⟩
        go_wp2_with fail
        refine (pow_int _ _ (by omega) (by omega)).mono ?_
        rintro e w2 ⟨rfl, rfl⟩
        go_wp2_with fail
        refine (in_no _ _ _ _ H5.out).mono ?_
        rintro e w2 ⟨rfl, rfl⟩
        go_wp2_with fail
        go_ret
        exact ⟨rfl, bnext (bstart _ _) hb1⟩
    · have H2 : Hid (¬ (0 ≤ n ∧ n ≤ 24)) := h2
      clear h h2
      go_enter Try.func80, Try.ntmps80
      go_wp2_with fail
      refine (specOut_any s c _ hs hc1 hc2).mono ?_
      rintro e w1 ⟨rfl, hb1⟩
      rw [h1]
      go_wp2_with fail
      refine (in_no _ _ _ _ H2.out).mono ?_
      rintro e w2 ⟨rfl, rfl⟩
      go_wp2_with fail
      go_ret
      exact ⟨rfl, bnext (bstart _ _) hb1⟩

theorem wrap_p2 (n : Nat) (h : n ≤ 61) : wrap64 (2 ^ n) = p2 n := by
  have hp := p2_61 h
  have hq := p2_pos n
  show wrap64 (p2 n) = p2 n
  unfold wrap64
  omega

end Go.Proofs.Ytbcnlggkoidmmaa
