/-
  The walk of the program's besideAt: the three bytes by which a byte is foretold.
-/
import Derived.Test.YtccjjpdhojmcgaaRows
import Derived.Test.YtccjjpdhojmcgaaBase
import Derived.Test.YtccjjpdhojmcgaaFiltMath
import Derived.Test.YtccjjpdhojmcgaaFiltKinds
import Derived.WalkKit
import Derived.ProofKit
import Derived.WalkLawsBesides
import Derived.RegionTactic
import Derived.BigRegion
import Derived.Below
import Derived.Lib.SmallJoins
namespace Go.Proofs.Ytccjjpdhojmcgaa
open Go.RowKit Go.Joins TakeMath FiltMath

set_option maxHeartbeats 1600000 in
theorem beside_any (a : Option Addr) (n cap : Nat) (r : Nat → Int) (above : ByteArray) (unit i : Nat) (w : World) (hu : 1 ≤ unit ∧ unit ≤ 8) (hi : i < above.size) (ha : above.size ≤ 200) (hr : ∀ i, 0 ≤ r i ∧ r i < 256)
    (hrow : unit ≤ i → ∃ g, a = some ⟨g, 0, none⟩ ∧ i - unit < n ∧ g < w.heap.size ∧ w.cell? ⟨g, i - unit, none⟩ = some (.int .u8 (r (i - unit)))) :
    Calls Try.prog 27 #[.slice a n cap, .string above, .int .i64 (i : Int), .int .i64 (unit : Int)] w fun e w' => e = .returned (bsV (aheadB r unit i) (bts above i) (aheadB (bts above) unit i)) ∧ Below w.heap.size w w' := by
  have HBY : Hid ((above[i]'hi).toNat = byteAt above i) := byteAt_get above i hi
  obtain ⟨B, hB⟩ : ∃ B : Nat, B = (above[i]'hi).toNat := ⟨_, rfl⟩
  have hB1 : B < 256 := by rw [hB]; exact UInt8.toNat_lt _
  have HBT : Hid (bts above i = (B : Int)) := by show _ = _; unfold bts; rw [← HBY.out, ← hB]
  have r0 := hB.symm
  have l1 : (i : Int) < (above.size : Int) := by omega
  clear hB
  by_cases hq : unit ≤ i
  · obtain ⟨g, rfl, hg1, hg2, hg3⟩ := hrow hq
    obtain ⟨j, hj⟩ : ∃ j, j = i - unit := ⟨_, rfl⟩
    rw [← hj] at hg1 hg3
    have hjs : j < above.size := by omega
    have HBY2 : Hid ((above[j]'hjs).toNat = byteAt above j) := byteAt_get above j hjs
    obtain ⟨C, hC⟩ : ∃ C : Nat, C = (above[j]'hjs).toNat := ⟨_, rfl⟩
    have hC1 : C < 256 := by rw [hC]; exact UInt8.toNat_lt _
    have HA : Hid (aheadB r unit i = r j ∧ aheadB (bts above) unit i = (C : Int)) := by
      unfold aheadB
      rw [if_pos hq, if_pos hq, ← hj]
      refine ⟨rfl, ?_⟩
      unfold bts
      rw [← HBY2.out, ← hC]
    have r2 := hC.symm
    have e1 : (i : Int) - (unit : Int) = (j : Int) := by omega
    have w1 : IntKind.i64.wrap (j : Int) = (j : Int) := by rw [IntKind.wrap_i64]; omega
    have w2 : IntKind.i64.wrap (C : Int) = (C : Int) := by rw [IntKind.wrap_i64]; omega
    have hrj := hr j
    obtain ⟨R, hR⟩ : ∃ R, R = r j := ⟨_, rfl⟩
    rw [← hR] at hg3 hrj HA
    have w3 : IntKind.i64.wrap R = R := by rw [IntKind.wrap_i64]; omega
    have dq : decide ((unit : Int) ≤ (i : Int)) = true := decide_eq_true (by omega)
    have x1 : (j : Int) < (above.size : Int) := by omega
    have x2 : (j : Int) < (n : Int) := by omega
    have hgn1 : ¬ g = w.heap.size := by omega
    have hgn2 : ¬ g = w.heap.size + 1 := by omega
    have hg4 : g < w.heap.size + 1 := by omega
    have hg5 : g < w.heap.size + 1 + 1 := by omega
    have c1 : ∀ o1 o2 : Obj, ((w.alloc o1).alloc o2).cell? ⟨g, j, none⟩ = some (.int .u8 R) := fun o1 o2 => by rw [grow_cell o2 (grow_lt o1 hg2), grow_cell o1 hg2]; exact hg3
    clear hC hj hR
    go_enter Try.func27, Try.ntmps27
    go_wp2_with fail
    go_region
    all_goals
      go_wp2_with fail

      refine bodyPost_ret (v := bsV R (B : Int) (C : Int)) (by simp [results, Try.results27, go_sem]) rfl ⟨?_, ?_⟩
      · rw [HBT.out, HA.out.1, HA.out.2]
      · exact (bal (bstart _ _) _).drew
  · have HA : Hid (aheadB r unit i = 0 ∧ aheadB (bts above) unit i = 0) := by
      unfold aheadB
      rw [if_neg hq, if_neg hq]
      exact ⟨rfl, rfl⟩
    have dq : decide ((unit : Int) ≤ (i : Int)) = false := decide_eq_false (by omega)
    go_enter Try.func27, Try.ntmps27
    go_wp2_with fail
    refine bodyPost_ret (v := bsV 0 (B : Int) 0) (by simp [results, Try.results27, go_sem]) rfl ⟨?_, ?_⟩
    · rw [HBT.out, HA.out.1, HA.out.2]
    · exact bal (bstart _ _) _
end Go.Proofs.Ytccjjpdhojmcgaa
