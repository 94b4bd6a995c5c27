/-
  The walks of what a token stands for, and of the program's TokenOk.
-/
import Derived.Test.YtihcapfdpgaeiaaRows
import Derived.Test.YtihcapfdpgaeiaaBase
import Derived.Test.YtihcapfdpgaeiaaTokMath
import Derived.Test.YtihcapfdpgaeiaaTokOkAns
import Derived.Test.YtihcapfdpgaeiaaLenCodeImpl
import Derived.Test.YtihcapfdpgaeiaaDistCodeImpl
import Derived.WalkKit
import Derived.ProofKit
import Derived.WalkLawsBesides
import Derived.Below
import Derived.Lib.SmallJoins
namespace Go.Proofs.Ytihcapfdpgaeiaa
open Go.RowKit Go.Joins TokMath

/-- What stands for a token. -/
def pieceV (t : Tok) : Value := if TokRight t then (if t.2.1 = 0 then .iface 79 (.int .u8 t.1) else .iface 82 (.agg #[.int .i64 t.2.1, .int .i64 t.2.2])) else .nilIface
theorem piece_byte {x : Int} (h0 : 0 ≤ x) (h1 : x ≤ 255) : pieceV (x, 0, 0) = .iface 79 (.int .u8 x) := by
  unfold pieceV
  rw [if_pos (show TokRight (x, 0, 0) from ⟨⟨h0, h1⟩, rfl⟩), if_pos rfl]
theorem piece_repeat {y z : Int} (hy : 3 ≤ y ∧ y ≤ 258) (hz : 1 ≤ z ∧ z ≤ 32768) : pieceV (0, y, z) = .iface 82 (.agg #[.int .i64 y, .int .i64 z]) := by
  have hn : ¬ y = 0 := by omega
  unfold pieceV
  rw [if_pos (show TokRight (0, y, z) by unfold TokRight; rw [if_neg hn]; exact ⟨rfl, hy, hz⟩), if_neg hn]
theorem piece_none {t : Tok} (h : ¬ TokRight t) : pieceV t = .nilIface := by
  unfold pieceV
  rw [if_neg h]

set_option maxHeartbeats 1600000 in
theorem pieceOf_any (x y z : Int) (w : World) :
    Calls Try.prog 54 #[.agg #[.int .i64 x, .int .i64 y, .int .i64 z]] w fun e w' => e = .returned (pieceV (x, y, z)) ∧ Below w.heap.size w w' := by
  have HB := hid_of (bstart w (.cells #[.int .i64 x, .int .i64 y, .int .i64 z] 51))
  by_cases hy : y = 0
  · subst hy
    by_cases hz : z = 0
    · subst hz
      by_cases hx : 0 ≤ x ∧ x ≤ 255
      · have d0 : decide ((0 : Int) ≤ x) = true := decide_eq_true hx.1
        have d1 : decide (x ≤ 255) = true := decide_eq_true hx.2
        have hx0 := hx.1
        have hx1 := hx.2
        rw [piece_byte hx.1 hx.2]
        clear hx
        go_enter Try.func54, Try.ntmps54
        go_wp2_with fail
        go_ret
        exact ⟨rfl, HB.out⟩
      · have hn : ¬ TokRight (x, 0, 0) := fun h => hx h.1
        have d2 : (x == 0) = false := by
          simp
          omega
        rw [piece_none hn]
        by_cases hx0 : 0 ≤ x
        · have d0 : decide ((0 : Int) ≤ x) = true := decide_eq_true hx0
          have d1 : decide (x ≤ 255) = false := decide_eq_false (by omega)
          go_enter Try.func54, Try.ntmps54
          go_wp2_with fail
          go_ret
          exact ⟨rfl, HB.out⟩
        · have d0 : decide ((0 : Int) ≤ x) = false := decide_eq_false hx0
          go_enter Try.func54, Try.ntmps54
          go_wp2_with fail
          go_ret
          exact ⟨rfl, HB.out⟩
    · have hn : ¬ TokRight (x, 0, z) := fun h => hz h.2
      have dz : (z == 0) = false := by
        simp
        omega
      rw [piece_none hn]
      by_cases hx : x = 0
      · subst hx
        have dn := fun w => isLength_no 0 w (by omega)
        go_enter Try.func54, Try.ntmps54
        go_wp2_with fail
        refine (dn _).mono ?_
        rintro e w1 ⟨rfl, rfl⟩
        go_wp2_with fail
        go_ret
        exact ⟨rfl, HB.out⟩
      · have dx : (x == 0) = false := by
          simp
          omega
        go_enter Try.func54, Try.ntmps54
        go_wp2_with fail
        go_ret
        exact ⟨rfl, HB.out⟩
  · have dy : (y == 0) = false := by
      simp
      omega
    by_cases hx : x = 0
    · subst hx
      by_cases h1 : 3 ≤ y ∧ y ≤ 258
      · have dl := fun w => isLength_yes y w h1
        by_cases h2 : 1 ≤ z ∧ z ≤ 32768
        · have dd := fun w => isDist_yes z w h2
          rw [piece_repeat h1 h2]
          go_enter Try.func54, Try.ntmps54
          go_wp2_with fail
          refine (dl _).mono ?_
          rintro e w1 ⟨rfl, rfl⟩
          go_wp2_with fail
          refine (dd _).mono ?_
          rintro e w2 ⟨rfl, rfl⟩
          go_wp2_with fail
          go_ret
          exact ⟨rfl, HB.out⟩
        · have dd := fun w => isDist_no z w h2
          have hn : ¬ TokRight (0, y, z) := fun h => by
            unfold TokRight at h
            rw [if_neg hy] at h
            exact h2 h.2.2
          rw [piece_none hn]
          go_enter Try.func54, Try.ntmps54
          go_wp2_with fail
          refine (dl _).mono ?_
          rintro e w1 ⟨rfl, rfl⟩
          go_wp2_with fail
          refine (dd _).mono ?_
          rintro e w2 ⟨rfl, rfl⟩
          go_wp2_with fail
          go_ret
          exact ⟨rfl, HB.out⟩
      · have dl := fun w => isLength_no y w h1
        have hn : ¬ TokRight (0, y, z) := fun h => by
          unfold TokRight at h
          rw [if_neg hy] at h
          exact h1 h.2.1
        rw [piece_none hn]
        go_enter Try.func54, Try.ntmps54
        go_wp2_with fail
        refine (dl _).mono ?_
        rintro e w1 ⟨rfl, rfl⟩
        go_wp2_with fail
        go_ret
        exact ⟨rfl, HB.out⟩
    · have dx : (x == 0) = false := by
        simp
        omega
      have hn : ¬ TokRight (x, y, z) := fun h => by
        unfold TokRight at h
        rw [if_neg hy] at h
        exact hx h.1
      rw [piece_none hn]
      go_enter Try.func54, Try.ntmps54
      go_wp2_with fail
      go_ret
      exact ⟨rfl, HB.out⟩

theorem token_answer : TokAnswer := by
  intro x y z w _ _ _
  have hp := fun w => pieceOf_any x y z w
  have HB := hid_of (bstart w (.cells #[.int .i64 x, .int .i64 y, .int .i64 z] 51))
  by_cases h : TokRight (x, y, z)
  · rw [decide_eq_true h]
    have hv : ∃ T v, pieceV (x, y, z) = .iface T v := by
      unfold pieceV
      rw [if_pos h]
      split
      · exact ⟨_, _, rfl⟩
      · exact ⟨_, _, rfl⟩
    obtain ⟨T, v, hv⟩ := hv
    rw [hv] at hp
    clear hv
    go_enter Try.func39, Try.ntmps39
    go_wp2_with fail
    refine (hp _).mono ?_
    rintro e w1 ⟨rfl, hB1⟩
    have HB1 := hid_of (bnext HB.out hB1)
    clear hB1 hp HB
    go_wp2_with fail
    go_ret
    exact ⟨rfl, HB1.out⟩
  · rw [decide_eq_false h]
    rw [piece_none h] at hp
    go_enter Try.func39, Try.ntmps39
    go_wp2_with fail
    refine (hp _).mono ?_
    rintro e w1 ⟨rfl, hB1⟩
    have HB1 := hid_of (bnext HB.out hB1)
    clear hB1 hp HB
    go_wp2_with fail
    go_ret
    exact ⟨rfl, HB1.out⟩

end Go.Proofs.Ytihcapfdpgaeiaa
