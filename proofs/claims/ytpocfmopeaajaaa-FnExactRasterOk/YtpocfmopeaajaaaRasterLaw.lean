/-
  The law FnExactRasterOk over what the model and the program answer.
-/
import Derived.Test.YtpocfmopeaajaaaRows
import Derived.Test.YtpocfmopeaajaaaBase
import Derived.Test.YtpocfmopeaajaaaOwnLib
import Derived.Test.YtpocfmopeaajaaaRowLib
import Derived.Test.YtpocfmopeaajaaaIntsLib
import Derived.Test.YtpocfmopeaajaaaIntsWalks
import Derived.Test.YtpocfmopeaajaaaRasterMath
import Derived.Test.YtpocfmopeaajaaaRasterArgs
import Derived.Test.YtpocfmopeaajaaaRasterSpec
import Derived.Test.YtpocfmopeaajaaaRasterImpl
import Derived.Test.YtpocfmopeaajaaaPartLen12
import Derived.WalkKit
import Derived.ProofKit
import Derived.OpenShut
import Derived.Below
import Derived.Deep.RegionHeld3
import Derived.Lib.SmallJoins
namespace Go.Proofs.Ytpocfmopeaajaaa
open Go.RowKit Go.Joins

theorem post_same {x0 x1 x2 x3 : Int} {n : Nat} {f : Nat → Int} {b c : Bool} (h : b = true ↔ RasR x0 x1 x2 x3 n f) (k : c = true ↔ RasR x0 x1 x2 x3 n f) : b = c := by
  cases b <;> cases c
  · rfl
  · exact absurd (h.mpr (k.mp rfl)) (by simp)
  · exact absurd (k.mpr (h.mp rfl)) (by simp)
  · rfl
set_option maxRecDepth 100000 in
set_option maxHeartbeats 1600000 in
theorem FnExactRasterOk_at (x0 x1 x2 x3 : Int) (a : Option Addr) (n cap : Nat) (f : Nat → Int) (w : World) (hC : Came w a n f) (hn : n ≤ 1048576) :
    Calls Try.prog 4 #[.agg #[.int .i64 x0, .int .i64 x1, .int .i64 x2, .int .i64 x3, .slice a n cap]] w fun e w' => e = .returned (.bool true) ∧ Below w.heap.size w w' := by
  have HC := hid_of hC
  have hsz := fun W => szRaster_any x0 x1 x2 x3 a n cap 1048576 W (by omega) (by omega) (by unfold maxLen; omega)
  rw [if_pos (by omega)] at hsz
  have d0 : decide ((1048576 : Int) - (n : Int) < 0) = false := decide_eq_false (by omega)
  have hto := fun (W : World) (h : Came W a n f) => toRaster_any x0 x1 x2 x3 a n cap f W h hn
  have HX : Hid ((w.alloc (.cells #[.int .i64 x0, .int .i64 x1, .int .i64 x2, .int .i64 x3, .slice a n cap] 33)).heap[w.heap.size]? = some (.cells #[.int .i64 x0, .int .i64 x1, .int .i64 x2, .int .i64 x3, .slice a n cap] 33 (0, 0))) := heap_alloc_new w _
  have HB := hid_of (bstart w (.cells #[.int .i64 x0, .int .i64 x1, .int .i64 x2, .int .i64 x3, .slice a n cap] 33))
  clear hC
  go_enter Try.func4, Try.ntmps4
  go_wp2_with fail
  generalize w.alloc (.cells #[.int .i64 x0, .int .i64 x1, .int .i64 x2, .int .i64 x3, .slice a n cap] 33) = W1 at HX HB ⊢
  refine (hsz W1).mono ?_
  rintro e w1 ⟨rfl, hB1⟩
  have HX1 := hid_of ((hB1.block _ (block_lt HX.out)).trans HX.out)
  have HB1 := hid_of (bnext HB.out hB1)
  clear hB1 HX HB
  have k0 : w1.cell? ⟨w.heap.size, 0, none⟩ = some (.int .i64 x0) := (cell_of_block HX1.out 0).trans rfl
  have k1 : w1.cell? ⟨w.heap.size, 1, none⟩ = some (.int .i64 x1) := (cell_of_block HX1.out 1).trans rfl
  have k2 : w1.cell? ⟨w.heap.size, 2, none⟩ = some (.int .i64 x2) := (cell_of_block HX1.out 2).trans rfl
  have k3 : w1.cell? ⟨w.heap.size, 3, none⟩ = some (.int .i64 x3) := (cell_of_block HX1.out 3).trans rfl
  have k4 : w1.cell? ⟨w.heap.size, 4, none⟩ = some (.slice a n cap) := (cell_of_block HX1.out 4).trans rfl
  have lx1 := block_lt HX1.out
  go_wp2_with fail
  refine (hto w1 (HC.out.called HB1.out)).mono ?_
  rintro e w2 ⟨g2, rfl, hO2, hB2⟩
  have HX2 := hid_of ((hB2.block _ (block_lt HX1.out)).trans HX1.out)
  have HB2 := hid_of (bnext HB1.out hB2)
  have HO2 := hid_of hO2
  clear hB2 hO2 HX1 HB1 k0 k1 k2 k3 k4 lx1
  go_wp2_with fail
  refine (specRaster x0 x1 x2 x3 (some ⟨g2, 0, none⟩) n n f w2 HO2.out.came hn).mono ?_
  rintro e w3 ⟨b, rfl, hb, hB3⟩
  have HBb := hid_of hb
  have HX3 := hid_of ((hB3.block _ (block_lt HX2.out)).trans HX2.out)
  have HB3 := hid_of (bnext HB2.out hB3)
  clear hB3 hb HX2 HB2 HO2
  have k0 : w3.cell? ⟨w.heap.size, 0, none⟩ = some (.int .i64 x0) := (cell_of_block HX3.out 0).trans rfl
  have k1 : w3.cell? ⟨w.heap.size, 1, none⟩ = some (.int .i64 x1) := (cell_of_block HX3.out 1).trans rfl
  have k2 : w3.cell? ⟨w.heap.size, 2, none⟩ = some (.int .i64 x2) := (cell_of_block HX3.out 2).trans rfl
  have k3 : w3.cell? ⟨w.heap.size, 3, none⟩ = some (.int .i64 x3) := (cell_of_block HX3.out 3).trans rfl
  have k4 : w3.cell? ⟨w.heap.size, 4, none⟩ = some (.slice a n cap) := (cell_of_block HX3.out 4).trans rfl
  have lx3 := block_lt HX3.out
  go_wp2_with fail
  refine (hto w3 (HC.out.called HB3.out)).mono ?_
  rintro e w4 ⟨g4, rfl, hO4, hB4⟩
  have HX4 := hid_of ((hB4.block _ (block_lt HX3.out)).trans HX3.out)
  have HB4 := hid_of (bnext HB3.out hB4)
  have HO4 := hid_of hO4
  have HY4 : Hid ((w4.alloc (.cells #[.int .i64 x0, .int .i64 x1, .int .i64 x2, .int .i64 x3, .slice (some ⟨g4, 0, none⟩) n n] 36)).heap[w4.heap.size]? = some (.cells #[.int .i64 x0, .int .i64 x1, .int .i64 x2, .int .i64 x3, .slice (some ⟨g4, 0, none⟩) n n] 36 (0, 0))) := heap_alloc_new w4 _
  clear hB4 hO4 HX3 HB3 k0 k1 k2 k3 k4 lx3
  go_wp2_with fail
  have HB5 : Hid (Below w4.heap.size w4 (w4.alloc (.cells #[.int .i64 x0, .int .i64 x1, .int .i64 x2, .int .i64 x3, .slice (some ⟨g4, 0, none⟩) n n] 36))) := bstart _ _
  generalize w4.alloc (.cells #[.int .i64 x0, .int .i64 x1, .int .i64 x2, .int .i64 x3, .slice (some ⟨g4, 0, none⟩) n n] 36) = W5 at HY4 HB5 ⊢
  have HX5 := hid_of ((HB5.out.block _ (block_lt HX4.out)).trans HX4.out)
  have HO5 := hid_of (HO4.out.called HB5.out)
  have HD5 := hid_of (bnext HB4.out HB5.out)
  generalize w4.heap.size = X at HY4 ⊢
  clear HX4 HO4 HB4 HB5
  refine (implRaster x0 x1 x2 x3 (some ⟨g4, 0, none⟩) n n f W5 HO5.out.came hn (Nat.le_refl _) (by unfold maxLen; omega)).mono ?_
  rintro e w6 ⟨c, rfl, hc, hB6⟩
  obtain rfl := post_same HBb.out hc
  have HX6 := hid_of ((hB6.block _ (block_lt HX5.out)).trans HX5.out)
  have HY6 := hid_of ((hB6.block _ (block_lt HY4.out)).trans HY4.out)
  have HO6 := hid_of (HO5.out.called hB6)
  have HB6 := hid_of (bnext HD5.out hB6)
  clear hc hB6 HX5 HY4 HO5 HD5
  have hbb : (b != b) = false := bne_self_eq_false b
  have k0 : w6.cell? ⟨w.heap.size, 0, none⟩ = some (.int .i64 x0) := (cell_of_block HX6.out 0).trans rfl
  have k1 : w6.cell? ⟨w.heap.size, 1, none⟩ = some (.int .i64 x1) := (cell_of_block HX6.out 1).trans rfl
  have k2 : w6.cell? ⟨w.heap.size, 2, none⟩ = some (.int .i64 x2) := (cell_of_block HX6.out 2).trans rfl
  have k3 : w6.cell? ⟨w.heap.size, 3, none⟩ = some (.int .i64 x3) := (cell_of_block HX6.out 3).trans rfl
  have k4 : w6.cell? ⟨w.heap.size, 4, none⟩ = some (.slice a n cap) := (cell_of_block HX6.out 4).trans rfl
  have j0 : w6.cell? ⟨X, 0, none⟩ = some (.int .i64 x0) := (cell_of_block HY6.out 0).trans rfl
  have j1 : w6.cell? ⟨X, 1, none⟩ = some (.int .i64 x1) := (cell_of_block HY6.out 1).trans rfl
  have j2 : w6.cell? ⟨X, 2, none⟩ = some (.int .i64 x2) := (cell_of_block HY6.out 2).trans rfl
  have j3 : w6.cell? ⟨X, 3, none⟩ = some (.int .i64 x3) := (cell_of_block HY6.out 3).trans rfl
  have j4 : w6.cell? ⟨X, 4, none⟩ = some (.slice (some ⟨g4, 0, none⟩) n n) := (cell_of_block HY6.out 4).trans rfl
  have lx6 := block_lt HX6.out
  have ly6 := block_lt HY6.out
  go_wp2_with fail
  refine wp_region_held (S := fun u => u.cell? ⟨w.heap.size, 0, none⟩ = some (.int .i64 x0) ∧ u.cell? ⟨w.heap.size, 1, none⟩ = some (.int .i64 x1) ∧ u.cell? ⟨w.heap.size, 2, none⟩ = some (.int .i64 x2) ∧ u.cell? ⟨w.heap.size, 3, none⟩ = some (.int .i64 x3) ∧ u.cell? ⟨w.heap.size, 4, none⟩ = some (.slice a n cap) ∧ u.cell? ⟨X, 0, none⟩ = some (.int .i64 x0) ∧ u.cell? ⟨X, 1, none⟩ = some (.int .i64 x1) ∧ u.cell? ⟨X, 2, none⟩ = some (.int .i64 x2) ∧ u.cell? ⟨X, 3, none⟩ = some (.int .i64 x3) ∧ u.cell? ⟨X, 4, none⟩ = some (.slice (some ⟨g4, 0, none⟩) n n)) (by kernel_rfl) ?_
  show wpAnyH _ _ _ _ _ _ _ _ w6.drew
  have HS : w6.drew.cell? ⟨w.heap.size, 0, none⟩ = some (.int .i64 x0) ∧ w6.drew.cell? ⟨w.heap.size, 1, none⟩ = some (.int .i64 x1) ∧ w6.drew.cell? ⟨w.heap.size, 2, none⟩ = some (.int .i64 x2) ∧ w6.drew.cell? ⟨w.heap.size, 3, none⟩ = some (.int .i64 x3) ∧ w6.drew.cell? ⟨w.heap.size, 4, none⟩ = some (.slice a n cap) ∧ w6.drew.cell? ⟨X, 0, none⟩ = some (.int .i64 x0) ∧ w6.drew.cell? ⟨X, 1, none⟩ = some (.int .i64 x1) ∧ w6.drew.cell? ⟨X, 2, none⟩ = some (.int .i64 x2) ∧ w6.drew.cell? ⟨X, 3, none⟩ = some (.int .i64 x3) ∧ w6.drew.cell? ⟨X, 4, none⟩ = some (.slice (some ⟨g4, 0, none⟩) n n) := ⟨k0, k1, k2, k3, k4, j0, j1, j2, j3, j4⟩
  refine wpAnyH_take (i := 0) (v := .agg #[.int .i64 x0, .int .i64 x1, .int .i64 x2, .int .i64 x3, .slice (some ⟨g4, 0, none⟩) n n]) rfl (by kernel_rfl) (by kernel_rfl) (by kernel_rfl) (fun _ _ _ h => h) (Or.inl ⟨by rfl, ?_⟩) HS ?_
  · intro w' hS
    obtain ⟨s0, s1, s2, s3, s4, t0, t1, t2, t3, t4⟩ := hS
    go_simp
  simp only [Act.put, List.getElem_toArray, List.getElem_cons_zero, List.setIfInBounds_toArray, List.set_cons_zero, List.set_cons_succ]
  refine wpAnyH_take (i := 1) (v := .agg #[.int .i64 x0, .int .i64 x1, .int .i64 x2, .int .i64 x3, .slice a n cap]) rfl (by kernel_rfl) (by kernel_rfl) (by kernel_rfl) (fun _ _ _ h => h) (Or.inl ⟨by rfl, ?_⟩) HS ?_
  · intro w' hS
    obtain ⟨s0, s1, s2, s3, s4, t0, t1, t2, t3, t4⟩ := hS
    go_simp
  simp only [Act.put, List.getElem_toArray, List.getElem_cons_zero, List.getElem_cons_succ, List.setIfInBounds_toArray, List.set_cons_zero, List.set_cons_succ]
  refine wpAnyH_ready (rs := [2]) (by kernel_rfl) (by simp) ?_
  refine AllReadyH.cons rfl (fun K hK => ?_) AllReadyH.nil
  refine if_wanted (wanted_none rfl) ?_
  simp only [List.getElem_toArray, List.getElem_cons_zero, List.getElem_cons_succ]
  go_simp
  refine (hto w6.drew (by exact HC.out.called HB6.out.drew)).mono ?_
  rintro e w7 ⟨g7, rfl, hO7, hB7⟩
  have HC7 : Hid (Below w6.heap.size w6 w7) := ⟨hB7.1, hB7.2, hB7.3, hB7.4, hB7.5⟩
  have HX7 := hid_of ((HC7.out.block _ (block_lt HX6.out)).trans HX6.out)
  have HY7 := hid_of ((HC7.out.block _ (block_lt HY6.out)).trans HY6.out)
  have HO7 := hid_of (HO6.out.called HC7.out)
  have HP7 := hid_of hO7.came
  have HB7 := hid_of (bnext HB6.out HC7.out)
  clear hO7 hB7 HC7 HX6 HY6 HO6 HB6
  have m0 : w7.cell? ⟨w.heap.size, 0, none⟩ = some (.int .i64 x0) := (cell_of_block HX7.out 0).trans rfl
  have m1 : w7.cell? ⟨w.heap.size, 1, none⟩ = some (.int .i64 x1) := (cell_of_block HX7.out 1).trans rfl
  have m2 : w7.cell? ⟨w.heap.size, 2, none⟩ = some (.int .i64 x2) := (cell_of_block HX7.out 2).trans rfl
  have m3 : w7.cell? ⟨w.heap.size, 3, none⟩ = some (.int .i64 x3) := (cell_of_block HX7.out 3).trans rfl
  have m4 : w7.cell? ⟨w.heap.size, 4, none⟩ = some (.slice a n cap) := (cell_of_block HX7.out 4).trans rfl
  have n0 : w7.cell? ⟨X, 0, none⟩ = some (.int .i64 x0) := (cell_of_block HY7.out 0).trans rfl
  have n1 : w7.cell? ⟨X, 1, none⟩ = some (.int .i64 x1) := (cell_of_block HY7.out 1).trans rfl
  have n2 : w7.cell? ⟨X, 2, none⟩ = some (.int .i64 x2) := (cell_of_block HY7.out 2).trans rfl
  have n3 : w7.cell? ⟨X, 3, none⟩ = some (.int .i64 x3) := (cell_of_block HY7.out 3).trans rfl
  have n4 : w7.cell? ⟨X, 4, none⟩ = some (.slice (some ⟨g4, 0, none⟩) n n) := (cell_of_block HY7.out 4).trans rfl
  refine hK.out _ _ ⟨m0, m1, m2, m3, m4, n0, n1, n2, n3, n4⟩ (fun HS2 => ?_)
  clear hK K
  refine wpAnyH_ready (rs := [3]) (by kernel_rfl) (by simp) ?_
  refine AllReadyH.cons rfl (fun K hK => ?_) AllReadyH.nil
  refine if_wanted (wanted_none rfl) ?_
  simp only [List.getElem_toArray, List.getElem_cons_zero, List.getElem_cons_succ]
  go_simp
  refine (eqRaster_same x0 x1 x2 x3 (some ⟨g4, 0, none⟩) (some ⟨g7, 0, none⟩) n n n f w7 HO7.out.came HP7.out hn).mono ?_
  rintro e w8 ⟨rfl, hB8⟩
  have HX8 := hid_of ((hB8.block _ (block_lt HX7.out)).trans HX7.out)
  have HY8 := hid_of ((hB8.block _ (block_lt HY7.out)).trans HY7.out)
  have HB8 := hid_of (bnext HB7.out hB8)
  clear hB8 HX7 HY7
  have p0 : w8.cell? ⟨w.heap.size, 0, none⟩ = some (.int .i64 x0) := (cell_of_block HX8.out 0).trans rfl
  have p1 : w8.cell? ⟨w.heap.size, 1, none⟩ = some (.int .i64 x1) := (cell_of_block HX8.out 1).trans rfl
  have p2 : w8.cell? ⟨w.heap.size, 2, none⟩ = some (.int .i64 x2) := (cell_of_block HX8.out 2).trans rfl
  have p3 : w8.cell? ⟨w.heap.size, 3, none⟩ = some (.int .i64 x3) := (cell_of_block HX8.out 3).trans rfl
  have p4 : w8.cell? ⟨w.heap.size, 4, none⟩ = some (.slice a n cap) := (cell_of_block HX8.out 4).trans rfl
  have q0 : w8.cell? ⟨X, 0, none⟩ = some (.int .i64 x0) := (cell_of_block HY8.out 0).trans rfl
  have q1 : w8.cell? ⟨X, 1, none⟩ = some (.int .i64 x1) := (cell_of_block HY8.out 1).trans rfl
  have q2 : w8.cell? ⟨X, 2, none⟩ = some (.int .i64 x2) := (cell_of_block HY8.out 2).trans rfl
  have q3 : w8.cell? ⟨X, 3, none⟩ = some (.int .i64 x3) := (cell_of_block HY8.out 3).trans rfl
  have q4 : w8.cell? ⟨X, 4, none⟩ = some (.slice (some ⟨g4, 0, none⟩) n n) := (cell_of_block HY8.out 4).trans rfl
  refine hK.out _ _ ⟨p0, p1, p2, p3, p4, q0, q1, q2, q3, q4⟩ (fun HS3 => ?_)
  clear hK K
  refine wpAnyH_take (i := 4) (v := .bool false) rfl (by kernel_rfl) (by kernel_rfl) (by kernel_rfl) (fun _ _ _ h => h) (Or.inl ⟨by rfl, ?_⟩) HS3 ?_
  · intro w' hS
    obtain ⟨s0, s1, s2, s3, s4, t0, t1, t2, t3, t4⟩ := hS
    go_simp
  simp only [Act.put, List.getElem_toArray, List.getElem_cons_zero, List.getElem_cons_succ, List.setIfInBounds_toArray, List.set_cons_zero, List.set_cons_succ]
  refine wpAnyH_done (by kernel_rfl) ?_ _
  go_wp2_with fail
  go_ret
  exact ⟨rfl, HB8.out⟩
theorem FnExactRasterOk_big (x0 x1 x2 x3 : Int) (a : Option Addr) (n cap : Nat) (w : World) (h : ¬ n ≤ 1048576) (hl : n ≤ maxLen) :
    Calls Try.prog 4 #[.agg #[.int .i64 x0, .int .i64 x1, .int .i64 x2, .int .i64 x3, .slice a n cap]] w fun e w' => e = .returned (.bool true) ∧ Below w.heap.size w w' := by
  have hsz := fun W => szRaster_any x0 x1 x2 x3 a n cap 1048576 W (by omega) (by omega) hl
  rw [if_neg (by omega)] at hsz
  have HB := hid_of (bstart w (.cells #[.int .i64 x0, .int .i64 x1, .int .i64 x2, .int .i64 x3, .slice a n cap] 33))
  go_enter Try.func4, Try.ntmps4
  go_wp2_with fail
  generalize w.alloc (.cells #[.int .i64 x0, .int .i64 x1, .int .i64 x2, .int .i64 x3, .slice a n cap] 33) = W1 at HB ⊢
  refine (hsz W1).mono ?_
  rintro e w1 ⟨rfl, hB1⟩
  have HB1 := hid_of (bnext HB.out hB1)
  clear hB1
  go_wp2_with fail
  go_ret
  exact ⟨rfl, HB1.out⟩
theorem rasterOk_law (x0 x1 x2 x3 : Int) (a : Option Addr) (len cap : Nat) (zs : List Int) (w : World) (_ : (Lit.int .i64 x0).wf = true) (_ : (Lit.int .i64 x1).wf = true) (_ : (Lit.int .i64 x2).wf = true) (_ : (Lit.int .i64 x3).wf = true) (hr : IsRow .i64 w a len cap zs) :
    Calls Try.prog 4 #[.agg #[.int .i64 x0, .int .i64 x1, .int .i64 x2, .int .i64 x3, .slice a len cap]] w fun e w' => e = .returned (.bool true) ∧ Below w.heap.size w w' := by
  obtain ⟨hC, hm, _⟩ := came_of_row hr
  by_cases hn : len ≤ 1048576
  · exact FnExactRasterOk_at x0 x1 x2 x3 a len cap _ w hC hn
  · exact FnExactRasterOk_big x0 x1 x2 x3 a len cap w hn hm
end Go.Proofs.Ytpocfmopeaajaaa
