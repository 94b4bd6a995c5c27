/-
  What the program's ChannelsOf, DepthOk and RowBytes answer.
-/
import Derived.Test.YtbbbhipbklbhhaaRows
import Derived.Test.YtbbbhipbklbhhaaBase
import Derived.Test.YtbbbhipbklbhhaaRastMath
import Derived.Test.YtbbbhipbklbhhaaRastAns
import Derived.Test.YtbbbhipbklbhhaaDepthImpl
import Derived.WalkKit
import Derived.ProofKit
import Derived.WalkLawsBesides
import Derived.Below
import Derived.Lib.SmallJoins
namespace Go.Proofs.Ytbbbhipbklbhhaa
open Go.RowKit Go.Joins RastMath

theorem channels_answer : ChannelsAnswer := fun c w _ => (implChannels c w).mono fun _ _ ⟨h, k⟩ => ⟨h, k ▸ Below.refl _ _⟩
theorem depth_answer : DepthAnswer := fun c d w _ _ => implDepth c d w
theorem rowBytes_answer : RowBytesAnswer := by
  intro x c d w _ _ _
  unfold rowB
  by_cases hx : SideR x
  · have hs := isSide_any x
    rw [decide_eq_true hx] at hs
    by_cases hd : DepthR c d
    · have hk := implDepth c d
      rw [decide_eq_true hd] at hk
      rw [if_pos ⟨hx, hd⟩]
      have hc := chan_range c
      have h5 := five_range (depth_five hd)
      have hch := implChannels c
      obtain ⟨x0, x1⟩ := hx
      generalize chan c = n at hc hch ⊢
      have m1 : 0 ≤ x * n ∧ x * n ≤ 96 := ⟨Int.mul_nonneg (by omega) hc.1, by
        have := Int.mul_le_mul x1 hc.2 hc.1 (by omega)
        omega⟩
      have m2 : 0 ≤ x * n * d ∧ x * n * d ≤ 1536 := ⟨Int.mul_nonneg m1.1 (by omega), by
        have := Int.mul_le_mul m1.2 h5.2 (by omega) (by omega)
        omega⟩
      have hf := fun W => rowFor_any (x * n * d) W m2.1 (by omega)
      go_enter Try.func25, Try.ntmps25
      go_wp2_with fail
      refine (hs _).mono ?_
      rintro e w1 ⟨rfl, rfl⟩
      go_wp2_with fail
      refine (hk _).mono ?_
      rintro e w1 ⟨rfl, hB⟩
      have HB := hid_of hB
      clear hB
      go_wp2_with fail
      refine (hch _).mono ?_
      rintro e w2 ⟨rfl, rfl⟩
      go_wp2_with fail
      refine (hf _).mono ?_
      rintro e w2 ⟨rfl, rfl⟩
      go_wp2_with fail
      go_ret
      exact ⟨rfl, HB.out⟩
    · have hk := implDepth c d
      rw [decide_eq_false hd] at hk
      rw [if_neg (fun h => hd h.2)]
      go_enter Try.func25, Try.ntmps25
      go_wp2_with fail
      refine (hs _).mono ?_
      rintro e w1 ⟨rfl, rfl⟩
      go_wp2_with fail
      refine (hk _).mono ?_
      rintro e w1 ⟨rfl, hB⟩
      have HB := hid_of hB
      clear hB
      go_wp2_with fail
      go_ret
      exact ⟨rfl, HB.out⟩
  · have hs := isSide_any x
    rw [decide_eq_false hx] at hs
    rw [if_neg (fun h => hx h.1)]
    go_enter Try.func25, Try.ntmps25
    go_wp2_with fail
    refine (hs _).mono ?_
    rintro e w1 ⟨rfl, rfl⟩
    go_wp2_with fail
    go_ret
    exact ⟨rfl, Below.refl _ _⟩
end Go.Proofs.Ytbbbhipbklbhhaa
