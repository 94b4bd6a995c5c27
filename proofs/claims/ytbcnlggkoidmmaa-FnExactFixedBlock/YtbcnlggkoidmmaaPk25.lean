/-
  The walk of a number put by the program's writer.
-/
import Derived.Test.YtbcnlggkoidmmaaRows
import Derived.Test.YtbcnlggkoidmmaaPk01
import Derived.Test.YtbcnlggkoidmmaaPk02
import Derived.Test.YtbcnlggkoidmmaaPk08
import Derived.Test.YtbcnlggkoidmmaaPk24
import Derived.WalkKit
import Derived.ProofKit
import Derived.WalkLawsBesides
import Derived.Lib.SmallJoins
namespace Go.Proofs.Ytbcnlggkoidmmaa
open Go.RowKit Go.Joins OutMath PutMath

set_option maxHeartbeats 800000 in
theorem putNumber_any (x : Int) (n : Nat) (b g0 L0 cap0 : Nat) (xs : List Int) (c : Nat) (base : Nat) (w : World) (hW : Wr w base b g0 L0 cap0 xs c) (hI : Inv xs c) (h4 : 0 ≤ x) (hx : x ≤ 16777216) (hn : n ≤ 24) (hc : c + n ≤ 96000) :
    Calls Try.prog 84 #[.pointer (some ⟨b, 0, none⟩), .int .i64 x, .int .i64 n] w fun e w' => ∃ g' L' cap', e = .returned (.tuple #[]) ∧ Wr w' base b g' L' cap' (puts xs c (fun j => bitOf x j) n) ((c + n : Nat) : Int) ∧ Below base w w' := by
  have HW : Hid (Wr w base b g0 L0 cap0 xs c) := hW
  have HI : Hid (Inv xs c) := hI
  clear hW hI
  go_enter Try.func84, Try.ntmps84
  go_wp2_with fail
  go_loopw [8] (fun i w' => ∃ j g L cap : Nat, j ≤ n ∧ i = .int .i64 (j : Int) ∧ Hid (Wr w' base b g L cap (puts xs c (fun j => bitOf x j) j) ((c + j : Nat) : Int)) ∧ Below base w w') (fun i _ => ((n : Int) - intOf i).toNat)
  case atStart => exact ⟨0, g0, L0, cap0, Nat.zero_le _, by simp, HW, Below.refl _ _⟩
  case round =>
    obtain ⟨j, g, L, cap, hj, rfl, hWr, hB⟩ := hrel
    have hIj := inv_puts (f := fun j => bitOf x j) HI.out (fun k => bitOf_01 _ _) j
    have HIj : Hid (Inv (puts xs c (fun j => bitOf x j) j) (c + j)) := hIj
    clear hIj
    by_cases hlt : j < n
    · have hbw := bit_shr x j h4 hx (by omega)
      have h01 := bitOf_01 x j
      go_wp2_with fail
      refine (putBit_any _ b g L cap _ (c + j) base _ hWr.out HIj.out (by omega) h01.1 h01.2).mono ?_
      rintro e w3 ⟨g', L', cap', rfl, hW3, hb3⟩
      have HW3 : Hid (Wr w3 base b g' L' cap' (puts xs c (fun j => bitOf x j) (j + 1)) ((c + (j + 1) : Nat) : Int)) := by
        have e : ((c + j : Nat) : Int) + 1 = ((c + (j + 1) : Nat) : Int) := by omega
        rw [← e]
        exact hW3
      clear hW3
      go_wp2_with fail
      go_roundw
      case rel => exact ⟨j + 1, g', L', cap', by omega, by go_num, HW3, hB.trans hb3⟩
      case measure => simp [intOf]; omega
    · obtain rfl : n = j := by omega
      go_wp2_with fail
      go_end0
      exact ⟨g, L, cap, rfl, hWr.out, hB⟩

end Go.Proofs.Ytbcnlggkoidmmaa
