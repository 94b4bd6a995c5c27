/-
  The walk of the document's model of counts.
-/
import Derived.Test.YtpecmolloohklaaRows
import Derived.Test.YtpecmolloohklaaBase
import Derived.Test.YtpecmolloohklaaCodeMath
import Derived.Test.YtpecmolloohklaaInWalks
import Derived.Test.YtpecmolloohklaaOwnLib
import Derived.Test.YtpecmolloohklaaIntsLib
import Derived.Test.YtpecmolloohklaaMakeLib
import Derived.Test.YtpecmolloohklaaCountsAns
import Derived.WalkKit
import Derived.ProofKit
import Derived.WalkLawsBesides
import Derived.RegionTactic
import Derived.BigRegion
import Derived.OwnWalk
import Derived.Lib.SmallJoins
namespace Go.Proofs.Ytpecmolloohklaa
open Go.RowKit Go.Joins CodeMath

theorem cntS_here (f : Nat → Int) (j s : Nat) (h : f j = (s : Int)) (i : Nat) : upd (fun q => cntS f (q : Nat) j) s (cntS f s j + 1) i = cntS f (i : Nat) (j + 1) := by
  unfold upd
  show _ = cntS f (i : Nat) j + (if f j = (i : Nat) then 1 else 0)
  by_cases e : i = s
  · subst e
    rw [if_pos rfl, if_pos h]
  · rw [if_neg e, if_neg (by omega)]
    show cntS f (i : Nat) j = cntS f (i : Nat) j + 0
    omega

/-- What the ring of CountsOf has at hand. -/
def CouSt (w w' : World) (f : Nat → Int) (k j : Nat) : Prop := IOwn w' w.heap.size w.heap.size k k (fun s => cntS f (s : Nat) j) ∧ Below w.heap.size w w'

set_option maxHeartbeats 800000 in
theorem specCounts_good (a : Option Addr) (n cap : Nat) (f : Nat → Int) (k : Nat) (w : World) (hC : Came w a n f) (hR : CountsRight f n (k : Int)) :
    Calls Try.prog 17 #[.slice a n cap, .int .i64 (k : Int)] w fun e w' => e = .returned (.tuple #[.slice (some ⟨w.heap.size, 0, none⟩) k k, .bool true]) ∧ IOwn w' w.heap.size w.heap.size k k (fun s => cntS f (s : Nat) n) ∧ Below w.heap.size w w' := by
  obtain ⟨h1, h2, h3, h4⟩ := hR
  have HC : Hid (Came w a n f) := hC
  have HV : Hid (∀ i, i < n → 0 ≤ f i ∧ f i ≤ (k : Int) - 1) := h4
  clear hC h4
  have hmk := make_ints w k (by omega)
  have HS : Hid (CouSt w (w.alloc (.cells (madeCells #[Value.int .i64 0] k) 3)) f k 0) := ⟨(IOwn.made (base := w.heap.size) w k (by unfold maxLen; omega) (Nat.le_refl _)).congr (fun i _ => rfl), bstart _ _⟩
  generalize w.alloc (.cells (madeCells #[Value.int .i64 0] k) 3) = w0 at hmk HS
  go_enter Try.func17, Try.ntmps17
  go_wp2_with fail
  refine (in_yes _ _ _ _ h1 h2).mono ?_
  rintro e w1 ⟨rfl, rfl⟩
  go_wp2_with fail
  go_loopw [7] (fun i w' => ∃ j : Nat, j ≤ n ∧ i = .int .i64 j ∧ Hid (CouSt w1 w' f k j)) (fun i _ => n - (intOf i).toNat)
  case atStart => exact ⟨0, Nat.zero_le _, rfl, HS⟩
  case round =>
    clear HS hmk
    obtain ⟨j, hj, rfl, hS⟩ := hrel
    by_cases hlt : j < n
    · rcases HC.out with q | ⟨g, off, rfl, hg, hc⟩
      · omega
      · have c0 : wr.cell? ⟨g, off + j, none⟩ = some (.int .i64 (f j)) := (hS.out.2.cell (p := ⟨g, off + j, none⟩) hg).trans (hc j hlt)
        have hl2 : g < wr.heap.size := Nat.lt_of_lt_of_le hg hS.out.2.size
        clear hc
        obtain ⟨v0, v1⟩ := HV.out j hlt
        obtain ⟨s, hs⟩ := Int.eq_ofNat_of_zero_le v0
        have hsk : s < k := by omega
        have c1 := hS.out.1.cell s hsk
        have f1 := hS.out.1.free s hsk
        have l1 := hS.out.1.lt
        have hcb := cntS_bd f (s : Nat) j
        have HS1 : Hid (CouSt w1 ((wr.setCell ⟨w1.heap.size, s, none⟩ (.int .i64 (cntS f s j + 1))).drew) f k (j + 1)) := by
          refine ⟨((hS.out.1.set s hsk _).congr (fun i _ => cntS_here f j s hs i)).drew, (Below.setCell (p := ⟨w1.heap.size, s, none⟩) hS.out.2 (Nat.le_refl _) _).drew⟩
        rw [hs] at c0 v0 v1
        clear hs
        go_wp2_with fail
        refine (in_yes _ _ _ _ v0 v1).mono ?_
        rintro e w2 ⟨rfl, rfl⟩
        go_wp2_with fail
        go_region
        all_goals
          go_wp2_with fail
          go_roundw
          case rel => exact ⟨j + 1, by omega, by go_num, HS1⟩
          case measure => simp [intOf]; omega
    · obtain rfl : j = n := by omega
      go_wp2_with fail
      go_ret2
      exact ⟨rfl, hS.out.1, hS.out.2⟩

set_option maxHeartbeats 800000 in
theorem specCounts_bad (a : Option Addr) (n cap : Nat) (f : Nat → Int) (z : Int) (w : World) (hC : Came w a n f) (hn : n ≤ 1048576) (hR : ¬ CountsRight f n z) :
    Calls Try.prog 17 #[.slice a n cap, .int .i64 z] w fun e w' => ∃ g : Nat, e = .returned (.tuple #[.slice (some ⟨g, 0, none⟩) 0 0, .bool false]) ∧ g < w'.heap.size ∧ Below w.heap.size w w' := by
  have HC : Hid (Came w a n f) := hC
  have HR : Hid (¬ CountsRight f n z) := hR
  clear hC hR
  by_cases hz : 1 ≤ z ∧ z ≤ 288
  · obtain ⟨h1, h2⟩ := hz
    by_cases h3 : n ≤ 12000
    · obtain ⟨k, rfl⟩ := Int.eq_ofNat_of_zero_le (show 0 ≤ z by omega)
      have hmk := make_ints w k (by omega)
      have HS : Hid (CouSt w (w.alloc (.cells (madeCells #[Value.int .i64 0] k) 3)) f k 0) := ⟨(IOwn.made (base := w.heap.size) w k (by unfold maxLen; omega) (Nat.le_refl _)).congr (fun i _ => rfl), bstart _ _⟩
      generalize w.alloc (.cells (madeCells #[Value.int .i64 0] k) 3) = w0 at hmk HS
      go_enter Try.func17, Try.ntmps17
      go_wp2_with fail
      refine (in_yes _ _ _ _ h1 h2).mono ?_
      rintro e w1 ⟨rfl, rfl⟩
      go_wp2_with fail
      go_loopw [7] (fun i w' => ∃ j : Nat, j ≤ n ∧ i = .int .i64 j ∧ Hid (∀ i, i < j → 0 ≤ f i ∧ f i ≤ (k : Int) - 1) ∧ Hid (CouSt w1 w' f k j)) (fun i _ => n - (intOf i).toNat)
      case atStart => exact ⟨0, Nat.zero_le _, rfl, fun i hi => absurd hi (Nat.not_lt_zero i), HS⟩
      case round =>
        clear HS hmk
        obtain ⟨j, hj, rfl, hV, hS⟩ := hrel
        by_cases hlt : j < n
        · rcases HC.out with q | ⟨g, off, rfl, hg, hc⟩
          · omega
          · have c0 : wr.cell? ⟨g, off + j, none⟩ = some (.int .i64 (f j)) := (hS.out.2.cell (p := ⟨g, off + j, none⟩) hg).trans (hc j hlt)
            have hl2 : g < wr.heap.size := Nat.lt_of_lt_of_le hg hS.out.2.size
            clear hc
            by_cases hin : 0 ≤ f j ∧ f j ≤ (k : Int) - 1
            · have HV1 : Hid (∀ i, i < j + 1 → 0 ≤ f i ∧ f i ≤ (k : Int) - 1) := fun i hi => by
                by_cases e : i = j
                · rw [e]; exact hin
                · exact hV.out i (by omega)
              obtain ⟨v0, v1⟩ := hin
              obtain ⟨s, hs⟩ := Int.eq_ofNat_of_zero_le v0
              have hsk : s < k := by omega
              have c1 := hS.out.1.cell s hsk
              have f1 := hS.out.1.free s hsk
              have l1 := hS.out.1.lt
              have hcb := cntS_bd f (s : Nat) j
              have HS1 : Hid (CouSt w1 ((wr.setCell ⟨w1.heap.size, s, none⟩ (.int .i64 (cntS f s j + 1))).drew) f k (j + 1)) := by
                refine ⟨((hS.out.1.set s hsk _).congr (fun i _ => cntS_here f j s hs i)).drew, (Below.setCell (p := ⟨w1.heap.size, s, none⟩) hS.out.2 (Nat.le_refl _) _).drew⟩
              rw [hs] at c0 v0 v1
              clear hs
              go_wp2_with fail
              refine (in_yes _ _ _ _ v0 v1).mono ?_
              rintro e w2 ⟨rfl, rfl⟩
              go_wp2_with fail
              go_region
              all_goals
                go_wp2_with fail
                go_roundw
                case rel => exact ⟨j + 1, by omega, by go_num, HV1, HS1⟩
                case measure => simp [intOf]; omega
            · have HN : Hid (¬ (0 ≤ f j ∧ f j ≤ (k : Int) - 1)) := hin
              have hB := hS.out.2
              clear hin
              go_wp2_with fail
              refine (in_no _ _ _ _ HN.out).mono ?_
              rintro e w2 ⟨rfl, rfl⟩
              go_wp2_with fail
              go_ret2
              exact ⟨_, rfl, by simp, bal hB _⟩
        · obtain rfl : j = n := by omega
          exact absurd ⟨h1, h2, h3, hV.out⟩ HR.out
    · have d : decide ((12000 : Int) < (n : Int)) = true := by simp; omega
      go_enter Try.func17, Try.ntmps17
      go_wp2_with fail
      refine (in_yes _ _ _ _ h1 h2).mono ?_
      rintro e w1 ⟨rfl, rfl⟩
      go_wp2_with fail
      go_ret2
      exact ⟨_, rfl, by simp, bstart _ _⟩
  · have HZ : Hid (¬ (1 ≤ z ∧ z ≤ 288)) := hz
    clear hz
    go_enter Try.func17, Try.ntmps17
    go_wp2_with fail
    refine (in_no _ _ _ _ HZ.out).mono ?_
    rintro e w1 ⟨rfl, rfl⟩
    go_wp2_with fail
    go_ret2
    exact ⟨_, rfl, by simp, bstart _ _⟩

end Go.Proofs.Ytpecmolloohklaa
