/-
  The walk of the program's first codes.
-/
import Derived.Test.YtbfjgkoohdknnaaRows
import Derived.Test.YtbfjgkoohdknnaaBase
import Derived.Test.YtbfjgkoohdknnaaOutMath
import Derived.Test.YtbfjgkoohdknnaaCodeMath
import Derived.Test.YtbfjgkoohdknnaaFullMath
import Derived.Test.YtbfjgkoohdknnaaFirstMath
import Derived.Test.YtbfjgkoohdknnaaSixLib
import Derived.WalkKit
import Derived.ProofKit
import Derived.WalkLawsBesides
import Derived.RegionTactic
import Derived.BigRegion
import Derived.Deep.RegionWith
import Derived.Lib.SmallJoins
namespace Go.Proofs.Ytbfjgkoohdknnaa
open Go.RowKit Go.Joins OutMath CodeMath

theorem firstTo_here (g : Nat → Int) (t : Nat) (s : Nat) : upd (firstTo g t) t (first g t) s = firstTo g (t + 1) s := by
  unfold upd firstTo
  by_cases h : s = t
  · rw [if_pos h, if_pos (by omega), h]
  · rw [if_neg h]
    by_cases h2 : s < t
    · rw [if_pos h2, if_pos (by omega)]
    · rw [if_neg h2, if_neg (by omega)]

/-- What the ring of firstCodes has at hand: the counts, the answer's place, and the codes so far. -/
def FirSt (w w' : World) (g : Nat → Int) (t : Nat) : Prop :=
  Six w' w.heap.size 67 g ∧ Six w' (w.heap.size + 1) 66 (fun _ => 0) ∧ Six w' (w.heap.size + 2) 66 (firstTo g t) ∧ Below w.heap.size w w'
theorem fir_start (w : World) (g : Nat → Int) : FirSt w (((w.alloc (.cells (six g) 67)).alloc (.cells (six fun _ => 0) 66)).alloc (.cells (six fun _ => 0) 66)) g 2 := by
  have z1 : (w.alloc (.cells (six g) 67)).heap.size = w.heap.size + 1 := by simp
  have z2 : ((w.alloc (.cells (six g) 67)).alloc (.cells (six fun _ => 0) 66)).heap.size = w.heap.size + 2 := by simp
  refine ⟨?_, ?_, ?_, bal (bal (bstart _ _) _) _⟩
  · show _ = _
    rw [Below.heap_alloc _ _ _ (by simp; omega), Below.heap_alloc _ _ _ (by simp)]
    exact heap_alloc_new w _
  · show _ = _
    rw [Below.heap_alloc _ _ _ (by simp)]
    have k := heap_alloc_new (w.alloc (.cells (six g) 67)) (.cells (six fun _ => 0) 66)
    rw [z1] at k
    exact k
  · refine Six.congr (g := fun _ => 0) ?_ (fun s _ => (firstTo_start g s).symm)
    have k := heap_alloc_new ((w.alloc (.cells (six g) 67)).alloc (.cells (six fun _ => 0) 66)) (.cells (six fun _ => 0) 66)
    rw [z2] at k
    exact k

set_option maxHeartbeats 1600000 in
theorem first_any (g : Nat → Int) (w : World) (hg : ∀ s, 0 ≤ g s ∧ g s ≤ 288) :
    Calls Try.prog 45 #[.agg (six g)] w fun e w' => e = .returned (.agg (six (first g))) ∧ Below w.heap.size w w' := by
  have HG : Hid (∀ s, 0 ≤ g s ∧ g s ≤ 288) := hg
  have H0 := hid_of (fir_start w g)
  clear hg
  go_enter Try.func45, Try.ntmps45
  go_wp2_with fail
  go_loopw [4] (fun i w' => ∃ t : Nat, 2 ≤ t ∧ t ≤ 16 ∧ i = .int .i64 t ∧ Hid (FirSt w w' g t)) (fun i _ => 16 - (intOf i).toNat)
  case atStart => exact ⟨2, by omega, by omega, rfl, H0⟩
  case round =>
    clear H0
    obtain ⟨t, ht1, ht2, rfl, hS⟩ := hrel
    by_cases hlt : t ≤ 15
    · obtain ⟨u, rfl⟩ : ∃ u, t = u + 1 := ⟨t - 1, by omega⟩
      have c0 := hS.out.1.c u (by omega)
      have c1 := hS.out.2.2.1.c u (by omega)
      have c2 := hS.out.2.2.1.c (u + 1) (by omega)
      have f2 := hS.out.2.2.1.f (u + 1)
      have l2 := hS.out.2.2.1.lt
      have e1 : firstTo g (u + 1) u = first g u := by unfold firstTo; rw [if_pos (by omega)]
      have e2 : firstTo g (u + 1) (u + 1) = 0 := by unfold firstTo; rw [if_neg (by omega)]
      rw [e1] at c1
      rw [e2] at c2
      have hb := first_lt g HG.out u (by omega)
      have hgb := HG.out u
      have HE : Hid (first g (u + 1) = 2 * (first g u + g u)) := first_step g (u + 1) (by omega)
      clear e1 e2
      go_wp2_with fail
      go_region
      all_goals
        have HS1 : Hid (FirSt w ((wr.setCell ⟨w.heap.size + 1 + 1, u + 1, none⟩ (.int .i64 (2 * (first g u + g u)))).drew) g (u + 1 + 1)) := by
          refine ⟨?_, ?_, ?_, (Below.setCell (p := ⟨w.heap.size + 2, u + 1, none⟩) hS.out.2.2.2 (by simp) _).drew⟩
          · show (wr.setCell ⟨w.heap.size + 2, u + 1, none⟩ _).heap[_]? = _
            rw [Below.heap_setCell _ _ _ _ (show w.heap.size ≠ w.heap.size + 2 by omega)]
            exact hS.out.1
          · show (wr.setCell ⟨w.heap.size + 2, u + 1, none⟩ _).heap[_]? = _
            rw [Below.heap_setCell _ _ _ _ (show w.heap.size + 1 ≠ w.heap.size + 2 by omega)]
            exact hS.out.2.1
          · have k := (hS.out.2.2.1.set (u + 1) (2 * (first g u + g u))).congr (g' := firstTo g (u + 1 + 1)) (fun i _ => by rw [← HE.out]; exact firstTo_here g (u + 1) i)
            exact k
        go_wp2_with fail
        go_roundw
        case rel => exact ⟨u + 1 + 1, by omega, by omega, by go_num, HS1⟩
        case measure => simp [intOf]; omega
    · obtain rfl : t = 16 := by omega
      have cr := hS.out.2.1.c
      have fr := hS.out.2.1.f
      have lr := hS.out.2.1.lt
      have hB := hS.out.2.2.2
      have e1 : ∀ i, i < 16 → firstTo g 16 i = first g i := fun i hi => by unfold firstTo; rw [if_pos hi]
      have cc : ∀ i, i < 16 → wr.cell? ⟨w.heap.size + 1 + 1, i, none⟩ = some (.int .i64 (first g i)) := fun i hi => by rw [← e1 i hi]; exact hS.out.2.2.1.c i hi
      clear e1
      go_wp2_with fail
      refine bodyPost_ret (v := .agg (six (first g))) (by simp [results, Try.results45, go_sem, cr]) rfl ⟨rfl, ?_⟩
      iterate 16 refine Below.setCell ?_ (by simp) _
      exact hB

end Go.Proofs.Ytbfjgkoohdknnaa
