/-
  The walks of what the exact laws do with slices of numbers: marked, looked at again.
-/
import Derived.Test.YtholkigomokimaaRows
import Derived.Test.YtholkigomokimaaBase
import Derived.Test.YtholkigomokimaaOwnLib
import Derived.Test.YtholkigomokimaaIntsLib
import Derived.Test.YtholkigomokimaaIntsWalks
import Derived.WalkKit
import Derived.ProofKit
import Derived.WalkLawsBesides
import Derived.OwnWalk
import Derived.Deep.QuietTactic
import Derived.BigQuiet
import Derived.RegionTactic
import Derived.Lib.SmallJoins
namespace Go.Proofs.Ytholkigomokimaa
open Go.RowKit Go.Joins

set_option maxHeartbeats 800000 in
/-- Marked: every number turned, and nothing besides. -/
theorem markIntS_own (base g n cap : Nat) (f : Nat → Int) (k : Int) (w : World) (hO : IOwn w base g n cap f) (hn : n ≤ 1048576) (hk0 : 0 ≤ k) (hk1 : k ≤ 1073741824) :
    Calls Try.prog 26 #[.slice (some ⟨g, 0, none⟩) n cap, .int .i64 k] w fun e w' => e = .returned (.int .i64 (k + n)) ∧ IOwn w' base g n cap (fun j => k + j) ∧ w.grownBy w' (some g) := by
  have HO : Hid (IOwn w base g n cap f) := hO
  clear hO
  go_enter Try.func26, Try.ntmps26
  go_wp2_with fail
  go_loopw [1, 5] (fun x i w' => ∃ (j : Nat) (h : Nat → Int), j ≤ n ∧ i = .int .i64 j ∧ x = .int .i64 (k + j) ∧ Hid (∀ i, i < j → h i = k + i) ∧ Hid (IOwn w' base g n cap h) ∧ Hid (w.grownBy w' (some g))) (fun _ i _ => n - (intOf i).toNat)
  case atStart => exact ⟨0, _, Nat.zero_le _, rfl, by simp, fun i hi => absurd hi (Nat.not_lt_zero i), HO, ⟨rfl, rfl, rfl, Nat.le_refl _, fun _ _ _ => rfl⟩⟩
  case round =>
    obtain ⟨j, h, hj, rfl, rfl, hh, hOj, hBj⟩ := hrel
    by_cases hlt : j < n
    · have c1 := hOj.out.cell j hlt
      have f1 := hOj.out.free j hlt
      have hl := hOj.out.lt
      have HO1 : Hid (IOwn (wr.setCell ⟨g, j, none⟩ (.int .i64 (k + j))) base g n cap (upd h j (k + j))) := hOj.out.set j hlt _
      have HB1 : Hid (w.grownBy (wr.setCell ⟨g, j, none⟩ (.int .i64 (k + j))) (some g)) := ⟨hBj.out.os, hBj.out.tape, hBj.out.output, by simpa using hBj.out.size, fun b hb hne => (Below.heap_setCell wr ⟨g, j, none⟩ _ b (by simpa using hne)).trans (hBj.out.block b hb hne)⟩
      have HH : Hid (∀ i, i < j + 1 → upd h j (k + j) i = k + i) := by
        intro i hi
        unfold upd
        by_cases e : i = j
        · rw [if_pos e, e]
        · rw [if_neg e]; exact hh.out i (by omega)
      go_wp2_with fail
      go_roundw
      case rel => exact ⟨j + 1, _, by omega, by go_num, by go_num, HH, HO1, HB1⟩
      case measure => simp [intOf]; omega
    · obtain rfl : j = n := by omega
      go_wp2_with fail
      go_ret
      exact ⟨rfl, hOj.out.congr hh.out, hBj.out⟩

/-- Nothing is marked in an empty slice. -/
theorem markIntS_none (a : Option Addr) (cap : Nat) (k : Int) (w : World) :
    Calls Try.prog 26 #[.slice a 0 cap, .int .i64 k] w fun e w' => e = .returned (.int .i64 k) ∧ w' = w := by
  go_enter Try.func26, Try.ntmps26
  go_wp2_with fail
  go_loop [1, 5] (fun x i => x = .int .i64 k ∧ i = .int .i64 0) (fun _ _ => 0)
  case atStart => exact ⟨rfl, rfl⟩
  case round =>
    obtain ⟨rfl, rfl⟩ := hrel
    go_wp2_with fail
    go_ret
    exact ⟨rfl, rfl⟩

set_option maxHeartbeats 800000 in
/-- Held: each number is what it was marked with. -/
theorem heldIntS_same (a : Option Addr) (n cap : Nat) (k : Int) (w : World) (hC : Came w a n (fun j => k + j)) (hn : n ≤ 1048576) (hk0 : 0 ≤ k) (hk1 : k ≤ 1073741824) :
    Calls Try.prog 27 #[.slice a n cap, .int .i64 k] w fun e w' => e = .returned (.int .i64 (k + n)) ∧ Below w.heap.size w w' := by
  have HC : Hid (Came w a n (fun j => k + j)) := hC
  clear hC
  go_enter Try.func27, Try.ntmps27
  go_wp2_with fail
  go_loopw [1, 5] (fun x i w' => ∃ (j : Nat), j ≤ n ∧ i = .int .i64 j ∧ x = .int .i64 (k + j) ∧ Hid (Below w.heap.size w w')) (fun _ i _ => n - (intOf i).toNat)
  case atStart => exact ⟨0, Nat.zero_le _, rfl, by simp, Below.refl _ _⟩
  case round =>
    obtain ⟨j, hj, rfl, rfl, hBj⟩ := hrel
    by_cases hlt : j < n
    · rcases HC.out with h0 | ⟨g, off, rfl, hg, hc⟩
      · omega
      · have k0 : wr.cell? ⟨g, off + j, none⟩ = some (.int .i64 (k + j)) := (hBj.out.cell (p := ⟨g, off + j, none⟩) hg).trans (hc j hlt)
        have l0 : g < wr.heap.size := Nat.lt_of_lt_of_le hg hBj.out.size
        clear hc
        go_wp2_with fail
        go_roundw
        case rel => exact ⟨j + 1, by omega, by go_num, by go_num, hBj.out⟩
        case measure => simp [intOf]; omega
    · obtain rfl : j = n := by omega
      go_wp2_with fail
      go_ret
      exact ⟨rfl, hBj.out⟩

/-- Marked: a slice that was handed back. -/
theorem markIntS_sl (base : Nat) (a : Option Addr) (n cap : Nat) (f : Nat → Int) (k : Int) (w : World) (hS : SL w base a n cap f) (hn : n ≤ 1048576) (hk0 : 0 ≤ k) (hk1 : k ≤ 1073741824) :
    Calls Try.prog 26 #[.slice a n cap, .int .i64 k] w fun e w' => e = .returned (.int .i64 (k + n)) ∧ SL w' base a n cap (fun j => k + j) ∧ ∃ row, (∀ g, row = some g → base ≤ g) ∧ w.grownBy w' row := by
  rcases hS with rfl | ⟨g, rfl, h⟩
  · refine (markIntS_none a cap k w).mono ?_
    rintro e w1 ⟨rfl, rfl⟩
    exact ⟨by simp, .inl rfl, none, (fun g hg => by cases hg), ⟨rfl, rfl, rfl, Nat.le_refl _, fun _ _ _ => rfl⟩⟩
  · refine (markIntS_own base g n cap f k w h hn hk0 hk1).mono ?_
    rintro e w1 ⟨rfl, hO, hg⟩
    exact ⟨rfl, .inr ⟨g, rfl, hO⟩, some g, (fun g' hg' => by cases hg'; exact h.base_le), hg⟩

end Go.Proofs.Ytholkigomokimaa
