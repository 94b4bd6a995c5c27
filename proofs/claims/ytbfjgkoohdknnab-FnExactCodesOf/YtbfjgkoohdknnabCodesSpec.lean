/-
  The walks of the document's model of the codes of lengths.
-/
import Derived.Test.YtbfjgkoohdknnabRows
import Derived.Test.YtbfjgkoohdknnabBase
import Derived.Test.YtbfjgkoohdknnabOutMath
import Derived.Test.YtbfjgkoohdknnabCodeMath
import Derived.Test.YtbfjgkoohdknnabOwnLib
import Derived.Test.YtbfjgkoohdknnabIntsLib
import Derived.Test.YtbfjgkoohdknnabCodeSpec
import Derived.WalkKit
import Derived.ProofKit
import Derived.WalkLawsBesides
import Derived.OwnWalk
import Derived.Lib.SmallJoins
namespace Go.Proofs.Ytbfjgkoohdknnab
open Go.RowKit Go.Joins OutMath CodeMath

theorem info_cell : (Try.prog.info? 3).map (fun i => (i.zero, i.size, i.bytes)) = some (some (.int .i64 0), 1, 8) := by kernel_rfl

theorem make_cells (w : World) (n : Nat) (hn : n ≤ 1048576) : (Instr.makeSlice 25 (.int .i64 n) (.int .i64 n)).run Try.prog w = .ok (.slice (some ⟨w.heap.size, 0, none⟩) n n) (w.alloc (.cells (madeCells #[Value.int .i64 0] n) 3)) := by
  obtain ⟨i0, hi0, hz0, hz1, hz2⟩ := info_parts info_cell
  have h := run_make (P := Try.prog) w 25 3 i0 (.int .i64 0) Try.underlying25 hi0 hz0 .i64 .i64 n n (by omega) (by omega) (by rw [hz2]; omega) (by omega)
  rw [hz1, Int.toNat_natCast, Nat.mul_one] at h
  exact h

theorem specCodes_bad (a : Option Addr) (n cap : Nat) (f : Nat → Int) (w : World) (hC : Came w a n f) (hn : n ≤ 1048576) (hB : ¬ Coded f n) :
    Calls Try.prog 13 #[.slice a n cap] w fun e w' => e = .returned (.tuple #[.slice (some ⟨w.heap.size, 0, none⟩) 0 0, .bool false]) ∧ w.heap.size < w'.heap.size ∧ Below w.heap.size w w' := by
  have HC : Hid (Came w a n f) := hC
  have HB : Hid (¬ Coded f n) := hB
  clear hC hB
  go_enter Try.func13, Try.ntmps13
  go_wp2_with fail
  refine (specKind a n cap f w HC.out hn).mono ?_
  rintro e w1 ⟨k, rfl, hk, hw⟩
  obtain rfl : w = w1 := hw.symm
  rcases kind_bad hk HB.out with rfl | rfl
  · clear hk
    go_wp2_with fail
    go_ret2
    exact ⟨rfl, by simp, bstart _ _⟩
  · clear hk
    go_wp2_with fail
    go_ret2
    exact ⟨rfl, by simp, bstart _ _⟩

/-- What the loops of CodesOf have at hand. -/
def CodesSt (w w' : World) (f : Nat → Int) (n : Nat) (t : Int) (i : Nat) : Prop := IOwn w' w.heap.size w.heap.size n n (outAt f n t i) ∧ Below w.heap.size w w'

set_option maxHeartbeats 1600000 in
theorem specCodes_good (a : Option Addr) (n cap : Nat) (f : Nat → Int) (w : World) (hC : Came w a n f) (hG : Coded f n) :
    Calls Try.prog 13 #[.slice a n cap] w fun e w' => e = .returned (.tuple #[.slice (some ⟨w.heap.size, 0, none⟩) n n, .bool true]) ∧ IOwn w' w.heap.size w.heap.size n n (codeOf f n) ∧ Below w.heap.size w w' := by
  have HC : Hid (Came w a n f) := hC
  have HG : Hid (Coded f n) := hG
  have hm := hG.1
  clear hC hG
  have hmk := make_cells w n (by omega)
  have HS : Hid (CodesSt w (w.alloc (.cells (madeCells #[Value.int .i64 0] n) 3)) f n 1 0) := ⟨(IOwn.made (base := w.heap.size) w n (by unfold maxLen; omega) (Nat.le_refl _)).congr (fun i _ => (outAt_start f n i).symm), bstart _ _⟩
  generalize w.alloc (.cells (madeCells #[Value.int .i64 0] n) 3) = w0 at hmk HS
  go_enter Try.func13, Try.ntmps13
  go_wp2_with fail
  refine (specKind a n cap f w HC.out (by omega)).mono ?_
  rintro e w1 ⟨k, rfl, hk, hw⟩
  obtain rfl : w = w1 := hw.symm
  obtain ⟨k0, k5⟩ := kind_good hk HG.out
  have d0 : (k == 0) = false := by simpa using k0
  have d5 : (k == 5) = false := by simpa using k5
  clear hk k0 k5 hw
  go_wp2_with fail
  go_loopw [6, 7] (fun x i w' => ∃ t : Nat, 1 ≤ t ∧ t ≤ 16 ∧ i = .int .i64 t ∧ x = .int .i64 (nx f n (t - 1)) ∧ Hid (CodesSt w w' f n t 0)) (fun _ i _ => 16 - (intOf i).toNat)
  case atStart => exact ⟨1, by omega, by omega, rfl, rfl, HS⟩
  case round =>
    obtain ⟨t, ht1, ht2, rfl, rfl, hS⟩ := hrel
    have hx := nx_lt f n hm (t - 1) (by omega)
    by_cases hlt : t ≤ 15
    · go_wp2_with fail
      go_loopw [6, 8] (fun x i w' => ∃ j : Nat, j ≤ n ∧ i = .int .i64 j ∧ x = .int .i64 (2 * nx f n (t - 1) + cntS f (t : Int) j) ∧ Hid (CodesSt w w' f n t j)) (fun _ i _ => n - (intOf i).toNat)
      case atStart => exact ⟨0, by omega, rfl, by simp [cntS], hS⟩
      case round =>
        obtain ⟨j, hj, rfl, rfl, hSj⟩ := hrel
        have hcb := cntS_bd f (t : Int) j
        by_cases hlt2 : j < n
        · rcases HC.out with h0 | ⟨g, off, rfl, hg, hc⟩
          · omega
          · have c0 : wr.cell? ⟨g, off + j, none⟩ = some (.int .i64 (f j)) := (hSj.out.2.cell (p := ⟨g, off + j, none⟩) hg).trans (hc j hlt2)
            have hl2 : g < wr.heap.size := Nat.lt_of_lt_of_le hg hSj.out.2.size
            clear hc
            by_cases he : f j = (t : Int)
            · have d : (f j == (t : Int)) = true := by simpa using he
              have HR : Hid (2 * nx f n (t - 1) + cntS f (t : Int) (j + 1) = 2 * nx f n (t - 1) + cntS f (t : Int) j + 1) := by
                show 2 * nx f n (t - 1) + (cntS f (t : Int) j + (if f j = (t : Int) then 1 else 0)) = _
                rw [if_pos he]; omega
              have c1 := hSj.out.1.cell j hlt2
              have f1 := hSj.out.1.free j hlt2
              have hl := hSj.out.1.lt
              have HS1 : Hid (CodesSt w (wr.setCell ⟨w.heap.size, j, none⟩ (.int .i64 (2 * nx f n (t - 1) + cntS f (t : Int) j))) f n t (j + 1)) := by
                refine ⟨(hSj.out.1.set j hlt2 _).congr (fun i _ => ?_), Below.setCell (p := ⟨w.heap.size, j, none⟩) hSj.out.2 (Nat.le_refl _) _⟩
                exact outAt_here f n t j ht1 he i
              clear he
              go_wp2_with fail
              go_roundw
              case rel => exact ⟨j + 1, by omega, by go_num, by rw [HR.out], HS1⟩
              case measure => simp [intOf]; omega
            · have d : (f j == (t : Int)) = false := by simpa using he
              have HR : Hid (2 * nx f n (t - 1) + cntS f (t : Int) (j + 1) = 2 * nx f n (t - 1) + cntS f (t : Int) j) := by
                show 2 * nx f n (t - 1) + (cntS f (t : Int) j + (if f j = (t : Int) then 1 else 0)) = _
                rw [if_neg he]; omega
              have HS1 : Hid (CodesSt w wr f n t (j + 1)) := ⟨hSj.out.1.congr (fun i _ => outAt_skip f n t j he i), hSj.out.2⟩
              clear he
              go_wp2_with fail
              go_roundw
              case rel => exact ⟨j + 1, by omega, by go_num, by rw [HR.out], HS1⟩
              case measure => simp [intOf]; omega
        · obtain rfl : j = n := by omega
          have HR : Hid (nx f j (t + 1 - 1) = 2 * nx f j (t - 1) + cntS f (t : Int) j) := by
            rw [nx_step f j t ht1, Nat.add_sub_cancel]
            exact rfl
          have HS1 : Hid (CodesSt w wr f j ((t + 1 : Nat) : Int) 0) := ⟨hSj.out.1.congr (fun i hi => outAt_turn f j t i hi), hSj.out.2⟩
          go_wp2_with fail
          go_roundw
          case rel => exact ⟨t + 1, by omega, by omega, by go_num, by rw [HR.out], HS1⟩
          case measure => simp [intOf]; omega
    · obtain rfl : t = 16 := by omega
      go_wp2_with fail
      go_ret2
      exact ⟨rfl, hS.out.1.congr (fun i hi => outAt_end f n i (HG.out.2.1 i hi).2), hS.out.2⟩

end Go.Proofs.Ytbfjgkoohdknnab
