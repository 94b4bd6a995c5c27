/-
  The walk of the program's PackRow.
-/
import Derived.Test.YtmanafegckibjaaDoorRows
import Derived.Test.YtmanafegckibjaaDoorBase
import Derived.Test.YtmanafegckibjaaDoorOwnLib
import Derived.Test.YtmanafegckibjaaDoorIntsLib
import Derived.Test.YtmanafegckibjaaDoorBytesFn
import Derived.Test.YtmanafegckibjaaDoorRastMath
import Derived.Test.YtmanafegckibjaaDoorUnpMath
import Derived.Test.YtmanafegckibjaaDoorPackMath12
import Derived.Test.YtmanafegckibjaaDoorDepthImpl
import Derived.Test.YtmanafegckibjaaDoorUnpackImpl
import Derived.WalkKit
import Derived.ProofKit
import Derived.WalkLawsBesides
import Derived.RegionTactic
import Derived.BigRegion
import Derived.Deep.RegionWith
import Derived.Laws.MakeOwn
import Derived.Below
import Derived.OwnWalk
import Derived.Lib.SmallJoins
namespace Go.Proofs.YtmanafegckibjaaDoor
open Go.RowKit Go.Joins OutMath PutMath TakeMath RastMath

/-- What areSamples answers. -/
def SamPost (f : Nat → Int) (n d : Nat) (w : World) (e : Ending) (w' : World) : Prop := ∃ b, e = .returned (.bool b) ∧ (b = true ↔ Fit12 f n d) ∧ w' = w
set_option maxHeartbeats 800000 in
theorem samples_any (a : Option Addr) (n cap d : Nat) (f : Nat → Int) (w : World) (hC : Came w a n f) (hn : n ≤ 1048576) (hd : d ≤ 16) :
    Calls Tryd.prog 60 #[.slice a n cap, .int .i64 (d : Int)] w (SamPost f n d w) := by
  have HC := hid_of hC
  obtain ⟨M, hM⟩ : ∃ M : Int, M = 2 ^ d := ⟨_, rfl⟩
  have hMb : 1 ≤ M ∧ M ≤ 65536 := by
    have h1 := p2_pos d
    have h2 := p2_le hd
    rw [show p2 16 = 65536 by decide +kernel] at h2
    rw [hM]
    exact ⟨h1, h2⟩
  have HM : Hid (M = p2 d) := hM
  have r2 := hM.symm
  have w6 : IntKind.i64.wrap M = M := by rw [IntKind.wrap_i64]; omega
  have m64 : min d 64 = d := by omega
  clear hC hM
  go_enter Tryd.func60, Tryd.ntmps60
  go_wp2_with fail
  go_loop [9] (fun i => ∃ j : Nat, j ≤ n ∧ i = .int .i64 j ∧ Hid (Fit12 f j d)) (fun i => n - (intOf i).toNat)
  case atStart => exact ⟨0, Nat.zero_le _, rfl, fun i hi => absurd hi (Nat.not_lt_zero i)⟩
  case round =>
    obtain ⟨j, hj, rfl, hok⟩ := hrel
    by_cases hlt : j < n
    · rcases HC.out with h0 | ⟨g, off, rfl, hg, hc⟩
      · omega
      · have c0 := hc j hlt
        clear hc
        by_cases hin : 0 ≤ f j ∧ f j < M
        · have HK : Hid (Fit12 f (j + 1) d) := hok.out.next hin.1 (by rw [← HM.out]; exact hin.2)
          have d0 : decide (f j < 0) = false := decide_eq_false (by omega)
          have d1 : decide (M ≤ f j) = false := decide_eq_false (by omega)
          clear hin
          go_wp2_with fail
          go_round
          case rel => exact ⟨j + 1, by omega, by go_num, HK⟩
          case measure => simp [intOf]; omega
        · have HN : Hid (¬ Fit12 f n d) := fun h => hin (by have := h j hlt; rw [← HM.out] at this; exact this)
          by_cases h0 : f j < 0
          · have d0 : decide (f j < 0) = true := decide_eq_true h0
            clear hin
            go_wp2_with fail
            go_ret
            exact ⟨false, rfl, by simp [HN.out], rfl⟩
          · have d0 : decide (f j < 0) = false := decide_eq_false h0
            have d1 : decide (M ≤ f j) = true := decide_eq_true (by omega)
            clear hin
            go_wp2_with fail
            go_ret
            exact ⟨false, rfl, by simp [HN.out], rfl⟩
    · obtain rfl : j = n := by omega
      go_wp2_with fail
      go_ret
      exact ⟨true, rfl, by simp [hok.out], rfl⟩
/-- What the ring of the program's PackRow has at hand: j samples are packed. -/
def PckI (w w' : World) (g : Nat) (f : Nat → Int) (d NB j : Nat) : Prop := ∃ h : Nat → Int, BFn w' w.heap.size g NB NB h ∧ (∀ i, i < NB → h i = packB f j d i) ∧ Below w.heap.size w w'
theorem pckI_one {w wr : World} {g : Nat} {f : Nat → Int} {d NB j m : Nat} {v : Int} (hS : PckI w wr g f d NB j) (hm : m < NB) (hv : v = packB f (j + 1) d m) (ho : ∀ i, ¬ i = m → packB f (j + 1) d i = packB f j d i) : PckI w (wr.setCell ⟨g, m, none⟩ (.int .u8 v)).drew g f d NB (j + 1) := by
  obtain ⟨h, hO, hh, hB⟩ := hS
  refine ⟨upd h m v, (hO.set m hm v).drew, fun i hi => ?_, (Below.setCell (p := ⟨g, m, none⟩) hB (Own.base_le hO) _).drew⟩
  unfold upd
  by_cases e : i = m
  · rw [if_pos e, e, hv]
  · rw [if_neg e, ho i e]; exact hh i hi
theorem pckI_two {w wr : World} {g : Nat} {f : Nat → Int} {NB j m : Nat} {v u : Int} (hS : PckI w wr g f 16 NB j) (hm : m + 1 < NB) (hj : m = 2 * j) (h0 : 0 ≤ f j) (h1 : f j < 65536) (hv : v = f j / 256) (hu : u = f j % 256) : PckI w ((wr.setCell ⟨g, m, none⟩ (.int .u8 v)).setCell ⟨g, m + 1, none⟩ (.int .u8 u)) g f 16 NB (j + 1) := by
  obtain ⟨h, hO, hh, hB⟩ := hS
  obtain ⟨p0, p1, p2⟩ := packB_two f j h0 h1
  have hO1 := hO.set m (by omega) v
  refine ⟨upd (upd h m v) (m + 1) u, hO1.set (m + 1) hm u, fun i hi => ?_, Below.setCell (p := ⟨g, m + 1, none⟩) (Below.setCell (p := ⟨g, m, none⟩) hB (Own.base_le hO) _) (Own.base_le hO) _⟩
  unfold upd
  by_cases e : i = m + 1
  · rw [if_pos e, e, hu, hj, p1]
  · rw [if_neg e]
    by_cases e2 : i = m
    · rw [if_pos e2, e2, hv, hj, p0]
    · rw [if_neg e2, p2 i (by omega) (by omega)]; exact hh i hi
end Go.Proofs.YtmanafegckibjaaDoor
