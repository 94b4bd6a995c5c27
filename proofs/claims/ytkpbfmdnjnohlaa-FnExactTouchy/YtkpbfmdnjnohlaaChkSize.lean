/-
  The walks of the laws' helper that measures a list of chunks.
-/
import Derived.Test.YtkpbfmdnjnohlaaRows
import Derived.Test.YtkpbfmdnjnohlaaBase
import Derived.Test.YtkpbfmdnjnohlaaIntsLib
import Derived.Test.YtkpbfmdnjnohlaaChkLib
import Derived.Test.YtkpbfmdnjnohlaaChkWalks
import Derived.WalkKit
import Derived.ProofKit
import Derived.WalkLawsBesides
import Derived.Below
import Derived.Lib.SmallJoins
namespace Go.Proofs.Ytkpbfmdnjnohlaa
open Go.RowKit Go.Joins

theorem szChunk_any (x y : ByteArray) (l : Int) (w : World) (hl0 : 0 ≤ l) (hl : l ≤ 1048576) (hx : x.size ≤ 9223372036854775807) (hy : y.size ≤ 9223372036854775807) :
    Calls Try.prog 56 #[.agg #[.string x, .string y], .int .i64 l] w fun e w' => (∃ z : Int, e = .returned (.int .i64 z) ∧ (z = -1 ∨ 0 ≤ z ∧ z ≤ l ∧ x.size ≤ 1048576 ∧ y.size ≤ 1048576)) ∧ Below w.heap.size w w' := by
  by_cases h1 : l - (x.size : Int) < 0
  · have d1 : decide (l - (x.size : Int) < 0) = true := decide_eq_true h1
    go_enter Try.func56, Try.ntmps56
    go_wp2_with fail
    go_ret
    exact ⟨⟨-1, rfl, .inl rfl⟩, bstart _ _⟩
  · have d1 : decide (l - (x.size : Int) < 0) = false := decide_eq_false h1
    by_cases h2 : l - (x.size : Int) - (y.size : Int) < 0
    · have d2 : decide (l - (x.size : Int) - (y.size : Int) < 0) = true := decide_eq_true h2
      go_enter Try.func56, Try.ntmps56
      go_wp2_with fail
      go_ret
      exact ⟨⟨-1, rfl, .inl rfl⟩, bstart _ _⟩
    · have d2 : decide (l - (x.size : Int) - (y.size : Int) < 0) = false := decide_eq_false h2
      go_enter Try.func56, Try.ntmps56
      go_wp2_with fail
      go_ret
      exact ⟨⟨_, rfl, .inr ⟨by omega, by omega, by omega, by omega⟩⟩, bstart _ _⟩

/-- What the measure has at hand. -/
def SzI (w w' : World) (F : Nat → ByteArray × ByteArray) (j : Nat) : Prop := Below w.heap.size w w' ∧ ∀ i, i < j → (F i).1.size ≤ 1048576 ∧ (F i).2.size ≤ 1048576
def SzPost (w : World) (n : Nat) (F : Nat → ByteArray × ByteArray) (e : Ending) (w' : World) : Prop := ∃ z : Int, e = .returned (.int .i64 z) ∧ (z = -1 ∨ 0 ≤ z ∧ z ≤ 1048576 ∧ n ≤ 1048576 ∧ ∀ i, i < n → (F i).1.size ≤ 1048576 ∧ (F i).2.size ≤ 1048576) ∧ Below w.heap.size w w'
set_option maxHeartbeats 1600000 in
theorem szChunkS_at (z0 : Int) (hz0 : 0 ≤ z0) (hz1 : z0 ≤ 1048576) (a : Option Addr) (n c : Nat) (F : Nat → ByteArray × ByteArray) (w : World) (hC : KCame w a n F) (hn : n ≤ 9223372036854775807) (hm : ∀ i, i < n → (F i).1.size ≤ 9223372036854775807 ∧ (F i).2.size ≤ 9223372036854775807) :
    Calls Try.prog 23 #[.slice a n c, .int .i64 z0] w (SzPost w n F) := by
  unfold SzPost
  by_cases h1 : z0 - (n : Int) < 0
  · have d1 : decide (z0 - (n : Int) < 0) = true := decide_eq_true h1
    clear hm hC
    go_enter Try.func23, Try.ntmps23
    go_wp2_with fail
    go_ret
    exact ⟨-1, rfl, .inl rfl, Below.refl _ _⟩
  · have d1 : decide (z0 - (n : Int) < 0) = false := decide_eq_false h1
    have HC := hid_of hC
    have HM := hid_of hm
    have hn2 : n ≤ 1048576 := by omega
    have hz2 : 0 ≤ z0 - (n : Int) ∧ z0 - (n : Int) ≤ 1048576 := by omega
    clear hC hm h1 hz0 hz1
    go_enter Try.func23, Try.ntmps23
    go_wp2_with fail
    go_loopw [1, 5] (fun z i w' => ∃ (j : Nat) (l : Int), j ≤ n ∧ i = .int .i64 j ∧ z = .int .i64 l ∧ 0 ≤ l ∧ l ≤ 1048576 ∧ Hid (SzI w w' F j)) (fun _ i _ => n - (intOf i).toNat)
    case atStart => exact ⟨0, _, Nat.zero_le _, rfl, rfl, hz2.1, hz2.2, Below.refl _ _, fun i hi => absurd hi (Nat.not_lt_zero i)⟩
    case round =>
      obtain ⟨j, l, hj, rfl, rfl, hl0, hl1, hI⟩ := hrel
      by_cases hlt : j < n
      · rcases HC.out with h0 | ⟨g, off, rfl, hg, hc⟩
        · omega
        · have c0 : wr.cell? ⟨g, off + j * 2, none⟩ = some (.string (F j).1) := (hI.out.1.cell (p := ⟨g, off + j * 2, none⟩) hg).trans (hc j hlt).1
          have c1 : wr.cell? ⟨g, off + j * 2 + 1, none⟩ = some (.string (F j).2) := (hI.out.1.cell (p := ⟨g, off + j * 2 + 1, none⟩) hg).trans (hc j hlt).2
          have hs := szChunk_any (F j).1 (F j).2 l wr hl0 hl1 (HM.out j hlt).1 (HM.out j hlt).2
          have hl2 : g < wr.heap.size := Nat.lt_of_lt_of_le hg hI.out.1.size
          have HE : Hid (∀ w1, Below wr.heap.size wr w1 → (F j).1.size ≤ 1048576 ∧ (F j).2.size ≤ 1048576 → SzI w w1 F (j + 1)) := fun w1 hb hz => ⟨bnext hI.out.1 hb, fun i hi => by
            by_cases e : i = j
            · rw [e]; exact hz
            · exact hI.out.2 i (by omega)⟩
          have HI1 := hid_of hI.out.1
          generalize (F j).1 = x at *
          generalize (F j).2 = y at *
          clear hc hI
          go_wp2_with fail
          refine hs.mono ?_
          rintro e w1 ⟨⟨z, rfl, hz⟩, hB⟩
          rcases hz with rfl | ⟨z0, z1, z2, z3⟩
          · have HB := hid_of (bnext HI1.out hB)
            clear hB HE
            go_wp2_with fail
            go_ret
            exact ⟨-1, rfl, .inl rfl, HB.out⟩
          · have HN := hid_of (HE.out w1 hB ⟨z2, z3⟩)
            have dz : decide (z < 0) = false := decide_eq_false (by omega)
            clear hB HE hs
            go_wp2_with fail
            go_roundw
            case rel => exact ⟨j + 1, z, by omega, by go_num, rfl, z0, by omega, HN⟩
            case measure => simp [intOf]; omega
      · obtain rfl : j = n := by omega
        go_wp2_with fail
        go_ret
        exact ⟨l, rfl, .inr ⟨hl0, hl1, hn2, hI.out.2⟩, hI.out.1⟩

theorem szChunkS_any (a : Option Addr) (n c : Nat) (F : Nat → ByteArray × ByteArray) (w : World) (hC : KCame w a n F) (hn : n ≤ 9223372036854775807) (hm : ∀ i, i < n → (F i).1.size ≤ 9223372036854775807 ∧ (F i).2.size ≤ 9223372036854775807) :
    Calls Try.prog 23 #[.slice a n c, .int .i64 1048576] w (SzPost w n F) := szChunkS_at 1048576 (by omega) (by omega) a n c F w hC hn hm

end Go.Proofs.Ytkpbfmdnjnohlaa
