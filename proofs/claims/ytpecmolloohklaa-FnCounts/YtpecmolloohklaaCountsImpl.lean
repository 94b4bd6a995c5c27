/-
  The walk of the program's counts.
-/
import Derived.Test.YtpecmolloohklaaRows
import Derived.Test.YtpecmolloohklaaBase
import Derived.Test.YtpecmolloohklaaCodeMath
import Derived.Test.YtpecmolloohklaaOwnLib
import Derived.Test.YtpecmolloohklaaIntsLib
import Derived.Test.YtpecmolloohklaaMakeLib
import Derived.Test.YtpecmolloohklaaCountsAns
import Derived.Test.YtpecmolloohklaaCountsMath
import Derived.WalkKit
import Derived.ProofKit
import Derived.WalkLawsBesides
import Derived.RegionTactic
import Derived.BigRegion
import Derived.OwnWalk
import Derived.Lib.SmallJoins
namespace Go.Proofs.Ytpecmolloohklaa
open Go.RowKit Go.Joins CodeMath

/-- The numbers are below the size. -/
def CouOk (f : Nat → Int) (n k : Nat) : Prop := ∀ i, i < n → 0 ≤ f i ∧ f i ≤ (k : Int) - 1
/-- What the ring of the program's CountsOf has at hand. -/
def CouI (w w' : World) (f : Nat → Int) (k j : Nat) : Prop := IOwn w' w.heap.size w.heap.size k k (fun s => cntS f (s : Nat) j) ∧ Below w.heap.size w w' ∧ ∀ i, i < j → 0 ≤ f i ∧ f i ≤ (k : Int) - 1

theorem couI_next {w wr : World} {f : Nat → Int} {k j s : Nat} (hS : CouI w wr f k j) (hs : f j = (s : Int)) (hsk : s < k) : CouI w (wr.setCell ⟨w.heap.size, s, none⟩ (.int .i64 (cntS f s j + 1))) f k (j + 1) := by
  refine ⟨(hS.1.set s hsk _).congr (fun i _ => cntI_here f j s hs i), Below.setCell (p := ⟨w.heap.size, s, none⟩) hS.2.1 (Nat.le_refl _) _, fun i hi => ?_⟩
  by_cases e : i = j
  · rw [e]; omega
  · exact hS.2.2 i (by omega)

set_option maxHeartbeats 800000 in
theorem implCounts_in (a : Option Addr) (n cap : Nat) (f : Nat → Int) (k : Nat) (w : World) (hC : Came w a n f) (hf : ∀ i, i < n → (Lit.int .i64 (f i)).wf = true) (h1 : 1 ≤ k) (h2 : k ≤ 288) (h3 : n ≤ 12000) :
    Calls Try.prog 16 #[.slice a n cap, .int .i64 (k : Int)] w fun e w' => (CouOk f n k → e = .returned (.tuple #[.slice (some ⟨w.heap.size, 0, none⟩) k k, .bool true]) ∧ IOwn w' w.heap.size w.heap.size k k (fun s => cntS f (s : Nat) n)) ∧ (¬ CouOk f n k → e = .returned (.tuple #[.slice none 0 0, .bool false])) ∧ Below w.heap.size w w' := by
  have HC : Hid (Came w a n f) := hC
  have HF : Hid (∀ i, i < n → (Lit.int .i64 (f i)).wf = true) := hf
  clear hC hf
  have hmk := make_ints w k (by omega)
  have HS : Hid (CouI w (w.alloc (.cells (madeCells #[Value.int .i64 0] k) 3)) f k 0) := ⟨(IOwn.made (base := w.heap.size) w k (by unfold maxLen; omega) (Nat.le_refl _)).congr (fun i _ => rfl), bstart _ _, fun i hi => absurd hi (Nat.not_lt_zero i)⟩
  generalize w.alloc (.cells (madeCells #[Value.int .i64 0] k) 3) = w0 at hmk HS
  have d1 : decide ((k : Int) < 1) = false := by simp; omega
  have d2 : decide ((288 : Int) < (k : Int)) = false := by simp; omega
  have d3 : decide ((12000 : Int) < (n : Int)) = false := by simp; omega
  go_enter Try.func16, Try.ntmps16
  go_wp2_with fail
  go_loopw [24] (fun i w' => ∃ j : Nat, j ≤ n ∧ i = .int .i64 j ∧ Hid (CouI w w' f k j)) (fun i _ => n - (intOf i).toNat)
  case atStart => exact ⟨0, Nat.zero_le _, rfl, HS⟩
  case round =>
    clear HS hmk
    obtain ⟨j, hj, rfl, hS⟩ := hrel
    by_cases hlt : j < n
    · rcases HC.out with q | ⟨g, off, rfl, hg, hc⟩
      · omega
      · have c0 : wr.cell? ⟨g, off + j, none⟩ = some (.int .i64 (f j)) := (hS.out.2.1.cell (p := ⟨g, off + j, none⟩) hg).trans (hc j hlt)
        have hl2 : g < wr.heap.size := Nat.lt_of_lt_of_le hg hS.out.2.1.size
        clear hc
        by_cases hin : 0 ≤ f j ∧ f j ≤ (k : Int) - 1
        · obtain ⟨v0, v1⟩ := hin
          obtain ⟨s, hs⟩ := Int.eq_ofNat_of_zero_le v0
          have hsk : s < k := by omega
          have c1 := hS.out.1.cell s hsk
          have f1 := hS.out.1.free s hsk
          have l1 := hS.out.1.lt
          have hcb := cntS_bd f (s : Nat) j
          have HS1 := hid_of (couI_next hS.out hs hsk)
          rw [hs] at c0
          have e1 : decide ((s : Int) < 0) = false := by simp
          have e2 : decide ((k : Int) ≤ (s : Int)) = false := by simp; omega
          clear hs v0 v1
          go_wp2_with fail
          go_roundw
          case rel => exact ⟨j + 1, by omega, by go_num, HS1⟩
          case measure => simp [intOf]; omega
        · have hB := hid_of hS.out.2.1
          have HN : Hid (¬ CouOk f n k) := fun h => hin (h j hlt)
          by_cases q0 : f j < 0
          · have e1 : decide (f j < 0) = true := by simpa using q0
            clear hin
            go_wp2_with fail
            go_ret2
            exact ⟨fun h => absurd h HN.out, fun _ => rfl, hB.out⟩
          · have e1 : decide (f j < 0) = false := by simpa using q0
            have e2 : decide ((k : Int) ≤ f j) = true := by simp; omega
            clear hin
            go_wp2_with fail
            exact bodyPost_ret (v := .tuple #[.slice none 0 0, .bool false]) (by simp [results, Try.results16, go_sem]) rfl ⟨fun h => absurd h HN.out, fun _ => rfl, hB.out⟩
    · obtain rfl : j = n := by omega
      go_wp2_with fail
      go_ret2
      exact ⟨fun _ => ⟨rfl, hS.out.1⟩, fun h => absurd hS.out.2.2 h, hS.out.2.1⟩

set_option maxHeartbeats 800000 in
theorem implCounts_out (a : Option Addr) (n cap : Nat) (z : Int) (w : World) (hn : n ≤ 1048576) (hb : ¬ (1 ≤ z ∧ z ≤ 288 ∧ n ≤ 12000)) :
    Calls Try.prog 16 #[.slice a n cap, .int .i64 z] w fun e w' => e = .returned (.tuple #[.slice none 0 0, .bool false]) ∧ Below w.heap.size w w' := by
  by_cases h1 : z < 1
  · have d1 : decide (z < 1) = true := by simpa using h1
    clear hb
    go_enter Try.func16, Try.ntmps16
    go_wp2_with fail
    go_ret2
    exact ⟨rfl, Below.refl _ _⟩
  · have d1 : decide (z < 1) = false := by simpa using h1
    by_cases h2 : 288 < z
    · have d2 : decide (288 < z) = true := by simpa using h2
      clear hb
      go_enter Try.func16, Try.ntmps16
      go_wp2_with fail
      go_ret2
      exact ⟨rfl, Below.refl _ _⟩
    · have d2 : decide (288 < z) = false := by simpa using h2
      have h3 : (12000 : Int) < (n : Int) := by omega
      have d3 : decide ((12000 : Int) < (n : Int)) = true := by simpa using h3
      clear hb
      go_enter Try.func16, Try.ntmps16
      go_wp2_with fail
      go_ret2
      exact ⟨rfl, Below.refl _ _⟩

theorem counts_answer : CountsAnswer := by
  intro a n cap f z w hC hn hf hz
  constructor
  · intro hR
    obtain ⟨h1, h2, h3, h4⟩ := hR
    obtain ⟨k, rfl⟩ := Int.eq_ofNat_of_zero_le (show 0 ≤ z by omega)
    refine (implCounts_in a n cap f k w hC hf (by omega) (by omega) h3).mono ?_
    rintro e w' ⟨hy, _, hb⟩
    obtain ⟨he, hI⟩ := hy h4
    exact ⟨_, _, by rw [he, Int.toNat_natCast], by rw [Int.toNat_natCast]; exact hI.sl, hb⟩
  · intro hR
    by_cases hin : 1 ≤ z ∧ z ≤ 288 ∧ n ≤ 12000
    · obtain ⟨h1, h2, h3⟩ := hin
      obtain ⟨k, rfl⟩ := Int.eq_ofNat_of_zero_le (show 0 ≤ z by omega)
      refine (implCounts_in a n cap f k w hC hf (by omega) (by omega) h3).mono ?_
      rintro e w' ⟨_, hno, hb⟩
      exact ⟨none, 0, hno (fun h => hR ⟨h1, h2, h3, h⟩), hb⟩
    · refine (implCounts_out a n cap z w hn hin).mono ?_
      rintro e w' ⟨he, hb⟩
      exact ⟨none, 0, he, hb⟩

end Go.Proofs.Ytpecmolloohklaa
