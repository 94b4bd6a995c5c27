/-
  The walk of the laws' sameInts, of two lists that are the same.
-/
import Derived.Test.YtpocfmopeaajaaaRows
import Derived.Test.YtpocfmopeaajaaaBase
import Derived.Test.YtpocfmopeaajaaaIntsLib
import Derived.WalkKit
import Derived.ProofKit
import Derived.WalkLawsBesides
import Derived.RegionTactic
import Derived.Deep.QuietTactic
import Derived.Below
import Derived.Lib.SmallJoins
namespace Go.Proofs.Ytpocfmopeaajaaa
open Go.RowKit Go.Joins

set_option maxHeartbeats 800000 in
theorem sameInts_same (a b : Option Addr) (n c1 c2 : Nat) (f : Nat → Int) (w : World) (ha : Came w a n f) (hb : Came w b n f) (hn : n ≤ 1048576) :
    Calls Try.prog 11 #[.slice a n c1, .slice b n c2] w fun e w' => e = .returned (.bool true) ∧ Below w.heap.size w w' := by
  have HA : Hid (Came w a n f) := ha
  have HB : Hid (Came w b n f) := hb
  clear ha hb
  go_enter Try.func11, Try.ntmps11
  go_wp2_with fail
  go_loopw [5] (fun i w' => ∃ (j : Nat), j ≤ n ∧ i = .int .i64 j ∧ Hid (Below w.heap.size w w')) (fun i _ => n - (intOf i).toNat)
  case atStart => exact ⟨0, Nat.zero_le _, rfl, Below.refl _ _⟩
  case round =>
    obtain ⟨j, hj, rfl, hBj⟩ := hrel
    by_cases hlt : j < n
    · rcases HA.out with h0 | ⟨g, off, rfl, hg, hc⟩
      · omega
      · rcases HB.out with h0 | ⟨g', off', rfl, hg', hc'⟩
        · omega
        · have k0 : wr.cell? ⟨g, off + j, none⟩ = some (.int .i64 (f j)) := (hBj.out.cell (p := ⟨g, off + j, none⟩) hg).trans (hc j hlt)
          have k1 : wr.cell? ⟨g', off' + j, none⟩ = some (.int .i64 (f j)) := (hBj.out.cell (p := ⟨g', off' + j, none⟩) hg').trans (hc' j hlt)
          have l0 : g < wr.heap.size := Nat.lt_of_lt_of_le hg hBj.out.size
          have l1 : g' < wr.heap.size := Nat.lt_of_lt_of_le hg' hBj.out.size
          clear hc hc'
          go_wp2_with fail
          go_region
          all_goals
            go_wp2_with fail
            go_roundw
            case rel => exact ⟨j + 1, by omega, by go_num, hBj.out.drew⟩
            case measure => simp [intOf]; omega
    · go_wp2_with fail
      go_ret
      exact ⟨rfl, hBj.out⟩

end Go.Proofs.Ytpocfmopeaajaaa
