/-
  The walks of the document's model of rasters: channels, depths, sides, rows' bytes.
  The walk of the document's model of FromPasses where it is refused at once; what it has at hand further on.
  What is handed back, by its number. Nothing here speaks of the program.
  The walk of the model's powers of two.
-/
import Derived.Test.YtmanafegckibjaaDoorRows
import Derived.Test.YtmanafegckibjaaDoorRk01
import Derived.Test.YtmanafegckibjaaDoorRk11
import Derived.Test.YtmanafegckibjaaDoorRk08
import Derived.Test.YtmanafegckibjaaDoorRk02
import Derived.Test.YtmanafegckibjaaDoorRk10
import Derived.Test.YtmanafegckibjaaDoorRk03
import Derived.WalkKit
import Derived.ProofKit
import Derived.WalkLawsBesides
import Derived.Below
import Derived.Lib.SmallJoins
import Derived.RegionTactic
import Derived.BigRegion
import Derived.BigQuiet
import Derived.Deep.QuietTactic
namespace Go.Proofs.YtmanafegckibjaaDoor
open Go.RowKit Go.Joins RastMath

theorem beq_of {a b : Int} (h : a = b) : (a == b) = true := by simpa using h
theorem beq_no {a b : Int} (h : ¬ a = b) : (a == b) = false := by simpa using h
theorem specChannels (c : Int) (w : World) : Calls Tryd.prog 52 #[.int .i64 c] w fun e w' => e = .returned (.int .i64 (chan c)) ∧ w' = w := by
  unfold chan
  by_cases h0 : c = 0
  · subst h0
    go_enter Tryd.func52, Tryd.ntmps52
    go_wp2_with fail
    go_ret
    exact ⟨rfl, rfl⟩
  by_cases h3 : c = 3
  · subst h3
    go_enter Tryd.func52, Tryd.ntmps52
    go_wp2_with fail
    go_ret
    exact ⟨rfl, rfl⟩
  by_cases h2 : c = 2
  · subst h2
    go_enter Tryd.func52, Tryd.ntmps52
    go_wp2_with fail
    go_ret
    exact ⟨rfl, rfl⟩
  by_cases h4 : c = 4
  · subst h4
    go_enter Tryd.func52, Tryd.ntmps52
    go_wp2_with fail
    go_ret
    exact ⟨rfl, rfl⟩
  by_cases h6 : c = 6
  · subst h6
    go_enter Tryd.func52, Tryd.ntmps52
    go_wp2_with fail
    go_ret
    exact ⟨rfl, rfl⟩
  rw [if_neg (by omega), if_neg h2, if_neg h4, if_neg h6]
  have b0 := beq_no h0
  have b3 := beq_no h3
  have b2 := beq_no h2
  have b4 := beq_no h4
  have b6 := beq_no h6
  go_enter Tryd.func52, Tryd.ntmps52
  go_wp2_with fail
  go_ret
  exact ⟨rfl, rfl⟩

set_option maxHeartbeats 1600000 in
theorem specDepthOk (c d : Int) (w : World) : Calls Tryd.prog 51 #[.int .i64 c, .int .i64 d] w fun e w' => e = .returned (.bool (decide (DepthR c d))) ∧ w' = w := by
  have hd : d = 1 ∨ d = 2 ∨ d = 4 ∨ d = 8 ∨ d = 16 ∨ ¬ Five d := by
    unfold Five
    omega
  have hc : c = 0 ∨ c = 3 ∨ c = 2 ∨ c = 4 ∨ c = 6 ∨ (¬ c = 0 ∧ ¬ c = 3 ∧ ¬ c = 2 ∧ ¬ c = 4 ∧ ¬ c = 6) := by omega
  rcases hc with rfl | rfl | rfl | rfl | rfl | ⟨h0, h3, h2, h4, h6⟩
  all_goals
    rcases hd with rfl | rfl | rfl | rfl | rfl | hd
  all_goals
    first
      | (rw [decide_eq_true (show DepthR _ _ by unfold DepthR Five; omega)])
      | (rw [decide_eq_false (show ¬ DepthR _ _ by unfold DepthR Five; omega)])
      | (rw [decide_eq_false (show ¬ DepthR _ _ from fun h => hd (depth_five h))])
    try (have e0 := beq_no h0; have e3 := beq_no h3; have e2 := beq_no h2; have e4 := beq_no h4; have e6 := beq_no h6; clear h0 h3 h2 h4 h6)
    try (unfold Five at hd; have g1 := beq_no (a := d) (b := 1) (by omega); have g2 := beq_no (a := d) (b := 2) (by omega); have g4 := beq_no (a := d) (b := 4) (by omega); have g8 := beq_no (a := d) (b := 8) (by omega); have g16 := beq_no (a := d) (b := 16) (by omega); clear hd)
    go_enter Tryd.func51, Tryd.ntmps51
    go_wp2_with fail
    go_ret
    exact ⟨rfl, rfl⟩
theorem specSide (n : Int) (w : World) : Calls Tryd.prog 41 #[.int .i64 n] w fun e w' => e = .returned (.bool (decide (SideR n))) ∧ w' = w := by
  by_cases h : SideR n
  · rw [decide_eq_true h]
    go_enter Tryd.func41, Tryd.ntmps41
    go_wp2_with fail
    refine (in_yes n 1 24 _ h.1 h.2).mono ?_
    rintro e w1 ⟨rfl, rfl⟩
    go_wp2_with fail
    go_ret
    exact ⟨rfl, rfl⟩
  · rw [decide_eq_false h]
    go_enter Tryd.func41, Tryd.ntmps41
    go_wp2_with fail
    refine (in_no n 1 24 _ h).mono ?_
    rintro e w1 ⟨rfl, rfl⟩
    go_wp2_with fail
    go_ret
    exact ⟨rfl, rfl⟩
end Go.Proofs.YtmanafegckibjaaDoor

namespace Go.Proofs.YtmanafegckibjaaDoor
open Go.RowKit Go.Joins RastMath PassMath

abbrev rasZ : Value := .agg #[.int .i64 0, .int .i64 0, .int .i64 0, .int .i64 0, .slice none 0 0]
abbrev zeroO : Obj := .cells #[.int .i64 0, .int .i64 0, .int .i64 0, .int .i64 0, .slice none 0 0] 26
/-- What can be asked of the arguments at once. -/
def FromA (W H : Int) (m : Nat) (R : Nat → Ras) : Prop := SideR W ∧ SideR H ∧ m = 7 ∧ DepthR (R 0).x2 (R 0).x3
theorem FromR.first {W H : Int} {m : Nat} {R : Nat → Ras} (h : FromR W H m R) : FromA W H m R := ⟨h.2.1.1, h.2.1.2.1, h.1, h.2.1.2.2.1⟩
set_option maxRecDepth 100000 in
set_option maxHeartbeats 3200000 in
theorem specFrom_side (W H : Int) (v : Value) (w : World) (h : ¬ SideR W) :
    Calls Tryd.prog 26 #[.int .i64 W, .int .i64 H, v] w fun e w' => e = .returned (.tuple #[rasZ, .bool false]) ∧ Below w.heap.size w w' := by
  have s0 := specSide W
  rw [decide_eq_false h] at s0
  clear h
  go_enter Tryd.func26, Tryd.ntmps26
  go_wp2_with fail
  go_quiet ((go_at_call 41; exact Calls.quiet_of_same (s0 _)))
  go_wp2_with fail
  refine bodyPost_ret (v := .tuple #[rasZ, .bool false]) ?_ rfl ⟨rfl, ?_⟩
  · simp [results, Tryd.results26, go_sem]
  · iterate 5 refine Below.setCell ?_ (by exact Nat.le_refl _) _
    exact bdraws (bstart _ _) _
set_option maxRecDepth 100000 in
set_option maxHeartbeats 3200000 in
theorem specFrom_side2 (W H : Int) (v : Value) (w : World) (h0 : SideR W) (h : ¬ SideR H) :
    Calls Tryd.prog 26 #[.int .i64 W, .int .i64 H, v] w fun e w' => e = .returned (.tuple #[rasZ, .bool false]) ∧ Below w.heap.size w w' := by
  have s0 := specSide W
  have s1 := specSide H
  rw [decide_eq_true h0] at s0
  rw [decide_eq_false h] at s1
  clear h h0
  go_enter Tryd.func26, Tryd.ntmps26
  go_wp2_with fail
  go_quiet ((go_at_call 41; first | exact Calls.quiet_of_same (s0 _) | exact Calls.quiet_of_same (s1 _)))
  go_wp2_with fail
  refine bodyPost_ret (v := .tuple #[rasZ, .bool false]) ?_ rfl ⟨rfl, ?_⟩
  · simp [results, Tryd.results26, go_sem]
  · iterate 5 refine Below.setCell ?_ (by exact Nat.le_refl _) _
    exact bdraws (bstart _ _) _
set_option maxRecDepth 100000 in
set_option maxHeartbeats 3200000 in
theorem specFrom_many (W H : Int) (a : Option Addr) (m c : Nat) (w : World) (h0 : SideR W) (h1 : SideR H) (h : ¬ m = 7) :
    Calls Tryd.prog 26 #[.int .i64 W, .int .i64 H, .slice a m c] w fun e w' => e = .returned (.tuple #[rasZ, .bool false]) ∧ Below w.heap.size w w' := by
  have s0 := specSide W
  have s1 := specSide H
  rw [decide_eq_true h0] at s0
  rw [decide_eq_true h1] at s1
  have b7 : ((m : Int) != 7) = true := by simp; omega
  clear h h0 h1
  go_enter Tryd.func26, Tryd.ntmps26
  go_wp2_with fail
  go_quiet ((go_at_call 41; first | exact Calls.quiet_of_same (s0 _) | exact Calls.quiet_of_same (s1 _)))
  go_wp2_with fail
  refine bodyPost_ret (v := .tuple #[rasZ, .bool false]) ?_ rfl ⟨rfl, ?_⟩
  · simp [results, Tryd.results26, go_sem]
  · iterate 5 refine Below.setCell ?_ (by exact Nat.le_refl _) _
    exact bdraws (bstart _ _) _
set_option maxRecDepth 100000 in
set_option maxHeartbeats 3200000 in
theorem specFrom_depth (W H : Int) (a : Option Addr) (c : Nat) (R : Nat → Ras) (w : World) (hC : RCame w a 7 R) (h0 : SideR W) (h1 : SideR H) (h : ¬ DepthR (R 0).x2 (R 0).x3) :
    Calls Tryd.prog 26 #[.int .i64 W, .int .i64 H, .slice a 7 c] w fun e w' => e = .returned (.tuple #[rasZ, .bool false]) ∧ Below w.heap.size w w' := by
  have s0 := specSide W
  have s1 := specSide H
  rw [decide_eq_true h0] at s0
  rw [decide_eq_true h1] at s1
  have s2 := specDepthOk (R 0).x2 (R 0).x3
  rw [decide_eq_false h] at s2
  obtain ⟨g, off, A, C, rfl, hg, hc⟩ : ∃ (g off : Nat) (A : Nat → Option Addr) (C : Nat → Nat), a = some ⟨g, off, none⟩ ∧ g < w.heap.size ∧ ∀ j, j < 7 → RasAt w g (off + j * 5) (R j) (A j) (C j) ∧ Came w (A j) (R j).n (R j).f ∧ (R j).n ≤ C j ∧ C j ≤ maxLen := by
    rcases hC with q | q
    · omega
    · exact q
  obtain ⟨⟨_, _, k2, k3, _⟩, _⟩ := hc 0 (by omega)
  have c2 : (w.alloc zeroO).cell? ⟨g, off + 2, none⟩ = some (.int .i64 (R 0).x2) := by rw [grow_cell _ hg]; simpa using k2
  have c3 : (w.alloc zeroO).cell? ⟨g, off + 3, none⟩ = some (.int .i64 (R 0).x3) := by rw [grow_cell _ hg]; simpa using k3
  have hg2 : g < (w.alloc zeroO).heap.size := grow_lt _ hg
  have HBZ := hid_of (bstart w zeroO)
  have z0 : (w.alloc zeroO).cell? ⟨w.heap.size, 0, none⟩ = some (.int .i64 0) := (cell_of_block (heap_alloc_new w _) 0).trans rfl
  have z1 : (w.alloc zeroO).cell? ⟨w.heap.size, 1, none⟩ = some (.int .i64 0) := (cell_of_block (heap_alloc_new w _) 1).trans rfl
  have z2 : (w.alloc zeroO).cell? ⟨w.heap.size, 2, none⟩ = some (.int .i64 0) := (cell_of_block (heap_alloc_new w _) 2).trans rfl
  have z3 : (w.alloc zeroO).cell? ⟨w.heap.size, 3, none⟩ = some (.int .i64 0) := (cell_of_block (heap_alloc_new w _) 3).trans rfl
  have z4 : (w.alloc zeroO).cell? ⟨w.heap.size, 4, none⟩ = some (.slice none 0 0) := (cell_of_block (heap_alloc_new w _) 4).trans rfl
  have zf : ∀ k, (w.alloc zeroO).frozen? ⟨w.heap.size, k, none⟩ = false := fun k => by have hz := heap_alloc_new w zeroO; unfold World.frozen?; rw [hz]; rfl
  have zl : w.heap.size < (w.alloc zeroO).heap.size := by simp
  clear h h0 h1 hc k2 k3 hC hg
  generalize (R 0).x2 = x2 at *
  generalize (R 0).x3 = x3 at *
  go_enter Tryd.func26, Tryd.ntmps26
  go_wp2_with fail
  generalize w.alloc zeroO = W0 at *
  go_quiet ((first | (go_at_call 41; first | exact Calls.quiet_of_same (s0 _) | exact Calls.quiet_of_same (s1 _)) | (go_at_call 51; exact Calls.quiet_of_same (s2 _))))
  go_wp2_with fail
  refine bodyPost_ret (v := .tuple #[rasZ, .bool false]) ?_ rfl ⟨rfl, ?_⟩
  · simp [results, Tryd.results26, go_sem, *]
  · iterate 5 refine Below.setCell ?_ (by exact Nat.le_refl _) _
    exact bdraws HBZ.out _
end Go.Proofs.YtmanafegckibjaaDoor

namespace Go.Proofs.YtmanafegckibjaaDoor
open Go.RowKit

theorem ret_i {k : IntKind} {a b : Int} (h : a = b) : Ending.returned (.int k a) = .returned (.int k b) := by rw [h]
theorem ret_b {a b : Bool} (h : a = b) : Ending.returned (.bool a) = .returned (.bool b) := by rw [h]

end Go.Proofs.YtmanafegckibjaaDoor

namespace Go.Proofs.YtmanafegckibjaaDoor
open Go.RowKit Go.Joins OutMath

set_option maxHeartbeats 400000 in
theorem pow_any (n : Nat) (w : World) (h : n ≤ 61) :
    Calls Tryd.prog 57 #[.int .i64 n] w fun e w' => e = .returned (.int .i64 (p2 n)) ∧ w' = w := by
  go_enter Tryd.func57, Tryd.ntmps57
  go_wp2
  go_loop [3, 4] (fun x i => ∃ j : Nat, j ≤ n ∧ i = .int .i64 j ∧ x = .int .i64 (p2 j)) (fun _ i => n - (intOf i).toNat)
  case atStart => exact ⟨0, Nat.zero_le _, rfl, by rw [p2_zero]⟩
  case round =>
    obtain ⟨j, hj, rfl, rfl⟩ := hrel
    have hp := p2_pos j
    have hq := p2_61 (n := j) (by omega)
    by_cases hlt : j < n
    · go_wp2
      go_round
      case rel => exact ⟨j + 1, by omega, by go_num, by rw [p2_succ]⟩
      case measure => simp [intOf]; omega
    · go_wp2
      go_ret
      exact ⟨ret_i (by rw [show j = n by omega]), rfl⟩

theorem pow_int (n : Int) (w : World) (h0 : 0 ≤ n) (h : n ≤ 61) :
    Calls Tryd.prog 57 #[.int .i64 n] w fun e w' => e = .returned (.int .i64 (p2 n.toNat)) ∧ w' = w := by
  obtain ⟨m, rfl⟩ := Int.eq_ofNat_of_zero_le h0
  exact pow_any m w (by omega)

end Go.Proofs.YtmanafegckibjaaDoor
