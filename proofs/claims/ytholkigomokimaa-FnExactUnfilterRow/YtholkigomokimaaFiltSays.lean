/-
  The walk of the document's model of filters: what a kind foretells of a byte.
-/
import Derived.Test.YtholkigomokimaaRows
import Derived.Test.YtholkigomokimaaBase
import Derived.Test.YtholkigomokimaaFiltMath
import Derived.Test.YtholkigomokimaaFiltSpec
import Derived.WalkKit
import Derived.ProofKit
import Derived.WalkLawsBesides
import Derived.Below
import Derived.Lib.SmallJoins
namespace Go.Proofs.Ytholkigomokimaa
open Go.RowKit Go.Joins TakeMath FiltMath

theorem specPaeth_byte {a b c : Int} (W : World) (ha : 0 ≤ a ∧ a < 256) (hb : 0 ≤ b ∧ b < 256) (hc : 0 ≤ c ∧ c < 256) : Calls Try.prog 58 #[.int .i64 a, .int .i64 b, .int .i64 c] W fun e w' => e = .returned (.int .i64 (paeth a b c)) ∧ w' = W :=
  specPaeth_in a b c W ⟨by omega, by omega⟩ ⟨by omega, by omega⟩ ⟨by omega, by omega⟩
set_option maxHeartbeats 3200000 in
theorem specSays (k : Int) (a : Option Addr) (n cap : Nat) (r : Nat → Int) (above : ByteArray) (unit i : Nat) (w : World) (hu : 1 ≤ unit ∧ unit ≤ 8) (hi : i < above.size) (hs : above.size ≤ 200) (hr : ∀ i, 0 ≤ r i ∧ r i < 256)
    (hrow : unit ≤ i → ∃ g, a = some ⟨g, 0, none⟩ ∧ i - unit < n ∧ g < w.heap.size ∧ w.cell? ⟨g, i - unit, none⟩ = some (.int .u8 (r (i - unit)))) :
    Calls Try.prog 44 #[.int .i64 k, .slice a n cap, .string above, .int .i64 (unit : Int), .int .i64 (i : Int)] w fun e w' => e = .returned (.int .i64 (says k r (bts above) unit i)) ∧ w' = w := by
  have HB : Hid ((above[i]'hi).toNat = byteAt above i) := byteAt_get above i hi
  have hb2 : (above[i]'hi).toNat < 256 := UInt8.toNat_lt _
  have il : (i : Int) < (above.size : Int) := by omega
  by_cases hq : unit ≤ i
  · have dq : decide ((unit : Int) ≤ (i : Int)) = true := decide_eq_true (by omega)
    have dn : decide (unit ≤ i) = true := decide_eq_true hq
    obtain ⟨g, rfl, hn, hg, hc⟩ := hrow hq
    obtain ⟨m, hm⟩ : ∃ m, m = i - unit := ⟨_, rfl⟩
    have hmi : (i : Int) - (unit : Int) = (m : Int) := by omega
    have hml : m < above.size := by omega
    have HM : Hid ((above[m]'hml).toNat = byteAt above m) := byteAt_get above m hml
    have hm2 : (above[m]'hml).toNat < 256 := UInt8.toNat_lt _
    have HS : Hid (says k r (bts above) unit i = told k (r m) ((above[i]'hi).toNat : Int) ((above[m]'hml).toNat : Int)) := by
      show told k (aheadB r unit i) (bts above i) (aheadB (bts above) unit i) = _
      unfold aheadB
      rw [if_pos hq, if_pos hq, ← hm]
      unfold bts
      rw [HB.out, HM.out]
    rw [HS.out]
    rw [← hm] at hn hc
    have hrm := hr m
    generalize r m = A at hc hrm ⊢
    have hp := fun W => specPaeth_byte (a := A) (b := ((above[i]'hi).toNat : Int)) (c := ((above[m]'hml).toNat : Int)) W hrm (by omega) (by omega)
    clear HS HB HM hrow hq hm
    unfold told
    by_cases k1 : k = 1
    · subst k1
      rw [if_pos rfl]
      go_enter Try.func44, Try.ntmps44
      go_wp2_with fail
      go_ret
      exact ⟨rfl, rfl⟩
    by_cases k2 : k = 2
    · subst k2
      rw [if_neg (by decide)]
      rw [if_pos rfl]
      go_enter Try.func44, Try.ntmps44
      go_wp2_with fail
      go_ret
      exact ⟨rfl, rfl⟩
    by_cases k3 : k = 3
    · subst k3
      rw [if_neg (by decide)]
      rw [if_neg (by decide)]
      rw [if_pos rfl]
      go_enter Try.func44, Try.ntmps44
      go_wp2_with fail
      go_ret
      exact ⟨rfl, rfl⟩
    by_cases k4 : k = 4
    · subst k4
      rw [if_neg (by decide)]
      rw [if_neg (by decide)]
      rw [if_neg (by decide)]
      rw [if_pos rfl]
      go_enter Try.func44, Try.ntmps44
      go_wp2_with fail
      refine (hp _).mono ?_
      rintro e w1 ⟨rfl, rfl⟩
      go_wp2_with fail
      go_ret
      exact ⟨rfl, rfl⟩
    rw [if_neg k1, if_neg k2, if_neg k3, if_neg k4]
    have b1 := beq_no13 k1
    have b2 := beq_no13 k2
    have b3 := beq_no13 k3
    have b4 := beq_no13 k4
    go_enter Try.func44, Try.ntmps44
    go_wp2_with fail
    go_ret
    exact ⟨rfl, rfl⟩
  · have dq : decide ((unit : Int) ≤ (i : Int)) = false := decide_eq_false (by omega)
    have dn : decide (unit ≤ i) = false := decide_eq_false hq
    have HS : Hid (says k r (bts above) unit i = told k 0 ((above[i]'hi).toNat : Int) 0) := by
      show told k (aheadB r unit i) (bts above i) (aheadB (bts above) unit i) = _
      unfold aheadB
      rw [if_neg hq, if_neg hq]
      unfold bts
      rw [HB.out]
    rw [HS.out]
    have hp := fun W => specPaeth_byte (a := 0) (b := ((above[i]'hi).toNat : Int)) (c := 0) W (by omega) (by omega) (by omega)
    clear HS HB hrow hq
    unfold told
    by_cases k1 : k = 1
    · subst k1
      rw [if_pos rfl]
      go_enter Try.func44, Try.ntmps44
      go_wp2_with fail
      go_ret
      exact ⟨rfl, rfl⟩
    by_cases k2 : k = 2
    · subst k2
      rw [if_neg (by decide)]
      rw [if_pos rfl]
      go_enter Try.func44, Try.ntmps44
      go_wp2_with fail
      go_ret
      exact ⟨rfl, rfl⟩
    by_cases k3 : k = 3
    · subst k3
      rw [if_neg (by decide)]
      rw [if_neg (by decide)]
      rw [if_pos rfl]
      rw [Int.zero_add]
      go_enter Try.func44, Try.ntmps44
      go_wp2_with fail
      go_ret
      exact ⟨rfl, rfl⟩
    by_cases k4 : k = 4
    · subst k4
      rw [if_neg (by decide)]
      rw [if_neg (by decide)]
      rw [if_neg (by decide)]
      rw [if_pos rfl]
      go_enter Try.func44, Try.ntmps44
      go_wp2_with fail
      refine (hp _).mono ?_
      rintro e w1 ⟨rfl, rfl⟩
      go_wp2_with fail
      go_ret
      exact ⟨rfl, rfl⟩
    rw [if_neg k1, if_neg k2, if_neg k3, if_neg k4]
    have b1 := beq_no13 k1
    have b2 := beq_no13 k2
    have b3 := beq_no13 k3
    have b4 := beq_no13 k4
    go_enter Try.func44, Try.ntmps44
    go_wp2_with fail
    go_ret
    exact ⟨rfl, rfl⟩
end Go.Proofs.Ytholkigomokimaa
