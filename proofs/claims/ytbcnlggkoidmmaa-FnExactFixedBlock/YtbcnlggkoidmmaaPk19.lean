/-
  The walks of the document's model of the codes of lengths.
  What the walks over lengths and distances share. Nothing here speaks of the program.
  The walks of the document's model of the symbols of lengths.
-/
import Derived.Test.YtbcnlggkoidmmaaRows
import Derived.Test.YtbcnlggkoidmmaaPk01
import Derived.Test.YtbcnlggkoidmmaaPk05
import Derived.Test.YtbcnlggkoidmmaaPk08
import Derived.Test.YtbcnlggkoidmmaaPk09
import Derived.Test.YtbcnlggkoidmmaaPk18
import Derived.Test.YtbcnlggkoidmmaaPk07
import Derived.Test.YtbcnlggkoidmmaaPk10
import Derived.Test.YtbcnlggkoidmmaaPk11
import Derived.WalkKit
import Derived.ProofKit
import Derived.WalkLawsBesides
import Derived.OwnWalk
import Derived.Lib.SmallJoins
namespace Go.Proofs.Ytbcnlggkoidmmaa
open Go.RowKit Go.Joins OutMath CodeMath

theorem info_cell : (Try.prog.info? 3).map (fun i => (i.zero, i.size, i.bytes)) = some (some (.int .i64 0), 1, 8) := by kernel_rfl

theorem make_cells (w : World) (n : Nat) (hn : n ≤ 1048576) : (Instr.makeSlice 24 (.int .i64 n) (.int .i64 n)).run Try.prog w = .ok (.slice (some ⟨w.heap.size, 0, none⟩) n n) (w.alloc (.cells (madeCells #[Value.int .i64 0] n) 3)) := by
  obtain ⟨i0, hi0, hz0, hz1, hz2⟩ := info_parts info_cell
  have h := run_make (P := Try.prog) w 24 3 i0 (.int .i64 0) Try.underlying24 hi0 hz0 .i64 .i64 n n (by omega) (by omega) (by rw [hz2]; omega) (by omega)
  rw [hz1, Int.toNat_natCast, Nat.mul_one] at h
  exact h

theorem specCodes_bad (a : Option Addr) (n cap : Nat) (f : Nat → Int) (w : World) (hC : Came w a n f) (hn : n ≤ 1048576) (hB : ¬ Coded f n) :
    Calls Try.prog 66 #[.slice a n cap] w fun e w' => e = .returned (.tuple #[.slice (some ⟨w.heap.size, 0, none⟩) 0 0, .bool false]) ∧ w.heap.size < w'.heap.size ∧ Below w.heap.size w w' := by
  have HC : Hid (Came w a n f) := hC
  have HB : Hid (¬ Coded f n) := hB
  clear hC hB
  go_enter Try.func66, Try.ntmps66
  go_wp2_with fail
  refine (specKind a n cap f w HC.out hn).mono ?_
  rintro e w1 ⟨k, rfl, hk, hw⟩
  obtain rfl : w = w1 := hw.symm
  rcases kind_bad hk HB.out with rfl | rfl
  · clear hk
    go_wp2_with fail
    go_ret2
    exact ⟨rfl, by simp, bstart _ _⟩
  · clear hk
    go_wp2_with fail
    go_ret2
    exact ⟨rfl, by simp, bstart _ _⟩

/-- What the loops of CodesOf have at hand. -/
def CodesSt (w w' : World) (f : Nat → Int) (n : Nat) (t : Int) (i : Nat) : Prop := IOwn w' w.heap.size w.heap.size n n (outAt f n t i) ∧ Below w.heap.size w w'

set_option maxRecDepth 100000 in
set_option maxHeartbeats 1600000 in
theorem specCodes_good (a : Option Addr) (n cap : Nat) (f : Nat → Int) (w : World) (hC : Came w a n f) (hG : Coded f n) :
    Calls Try.prog 66 #[.slice a n cap] w fun e w' => e = .returned (.tuple #[.slice (some ⟨w.heap.size, 0, none⟩) n n, .bool true]) ∧ IOwn w' w.heap.size w.heap.size n n (codeOf f n) ∧ Below w.heap.size w w' := by
  have HC : Hid (Came w a n f) := hC
  have HG : Hid (Coded f n) := hG
  have hm := hG.1
  clear hC hG
  have hmk := make_cells w n (by omega)
  have HS : Hid (CodesSt w (w.alloc (.cells (madeCells #[Value.int .i64 0] n) 3)) f n 1 0) := ⟨(IOwn.made (base := w.heap.size) w n (by unfold maxLen; omega) (Nat.le_refl _)).congr (fun i _ => (outAt_start f n i).symm), bstart _ _⟩
  generalize w.alloc (.cells (madeCells #[Value.int .i64 0] n) 3) = w0 at hmk HS
  go_enter Try.func66, Try.ntmps66
  go_wp2_with fail
  refine (specKind a n cap f w HC.out (by omega)).mono ?_
  rintro e w1 ⟨k, rfl, hk, hw⟩
  obtain rfl : w = w1 := hw.symm
  obtain ⟨k0, k5⟩ := kind_good hk HG.out
  have d0 : (k == 0) = false := by simpa using k0
  have d5 : (k == 5) = false := by simpa using k5
  clear hk k0 k5 hw
  go_wp2_with fail
  go_loopw [6, 7] (fun x i w' => ∃ t : Nat, 1 ≤ t ∧ t ≤ 16 ∧ i = .int .i64 t ∧ x = .int .i64 (nx f n (t - 1)) ∧ Hid (CodesSt w w' f n t 0)) (fun _ i _ => 16 - (intOf i).toNat)
  case atStart => exact ⟨1, by omega, by omega, rfl, rfl, HS⟩
  case round =>
    obtain ⟨t, ht1, ht2, rfl, rfl, hS⟩ := hrel
    have hx := nx_lt f n hm (t - 1) (by omega)
    by_cases hlt : t ≤ 15
    · go_wp2_with fail
      go_loopw [6, 8] (fun x i w' => ∃ j : Nat, j ≤ n ∧ i = .int .i64 j ∧ x = .int .i64 (2 * nx f n (t - 1) + cntS f (t : Int) j) ∧ Hid (CodesSt w w' f n t j)) (fun _ i _ => n - (intOf i).toNat)
      case atStart => exact ⟨0, by omega, rfl, by simp [cntS], hS⟩
      case round =>
        obtain ⟨j, hj, rfl, rfl, hSj⟩ := hrel
        have hcb := cntS_bd f (t : Int) j
        by_cases hlt2 : j < n
        · rcases HC.out with h0 | ⟨g, off, rfl, hg, hc⟩
          · omega
          · have c0 : wr.cell? ⟨g, off + j, none⟩ = some (.int .i64 (f j)) := (hSj.out.2.cell (p := ⟨g, off + j, none⟩) hg).trans (hc j hlt2)
            have hl2 : g < wr.heap.size := Nat.lt_of_lt_of_le hg hSj.out.2.size
            clear hc
            by_cases he : f j = (t : Int)
            · have d : (f j == (t : Int)) = true := by simpa using he
              have HR : Hid (2 * nx f n (t - 1) + cntS f (t : Int) (j + 1) = 2 * nx f n (t - 1) + cntS f (t : Int) j + 1) := by
                show 2 * nx f n (t - 1) + (cntS f (t : Int) j + (if f j = (t : Int) then 1 else 0)) = _
                rw [if_pos he]; omega
              have c1 := hSj.out.1.cell j hlt2
              have f1 := hSj.out.1.free j hlt2
              have hl := hSj.out.1.lt
              have HS1 : Hid (CodesSt w (wr.setCell ⟨w.heap.size, j, none⟩ (.int .i64 (2 * nx f n (t - 1) + cntS f (t : Int) j))) f n t (j + 1)) := by
                refine ⟨(hSj.out.1.set j hlt2 _).congr (fun i _ => ?_), Below.setCell (p := ⟨w.heap.size, j, none⟩) hSj.out.2 (Nat.le_refl _) _⟩
                exact outAt_here f n t j ht1 he i
              clear he
              go_wp2_with fail
              go_roundw
              case rel => exact ⟨j + 1, by omega, by go_num, by rw [HR.out], HS1⟩
              case measure => simp [intOf]; omega
            · have d : (f j == (t : Int)) = false := by simpa using he
              have HR : Hid (2 * nx f n (t - 1) + cntS f (t : Int) (j + 1) = 2 * nx f n (t - 1) + cntS f (t : Int) j) := by
                show 2 * nx f n (t - 1) + (cntS f (t : Int) j + (if f j = (t : Int) then 1 else 0)) = _
                rw [if_neg he]; omega
              have HS1 : Hid (CodesSt w wr f n t (j + 1)) := ⟨hSj.out.1.congr (fun i _ => outAt_skip f n t j he i), hSj.out.2⟩
              clear he
              go_wp2_with fail
              go_roundw
              case rel => exact ⟨j + 1, by omega, by go_num, by rw [HR.out], HS1⟩
              case measure => simp [intOf]; omega
        · obtain rfl : j = n := by omega
          have HR : Hid (nx f j (t + 1 - 1) = 2 * nx f j (t - 1) + cntS f (t : Int) j) := by
            rw [nx_step f j t ht1, Nat.add_sub_cancel]
            exact rfl
          have HS1 : Hid (CodesSt w wr f j ((t + 1 : Nat) : Int) 0) := ⟨hSj.out.1.congr (fun i hi => outAt_turn f j t i hi), hSj.out.2⟩
          go_wp2_with fail
          go_roundw
          case rel => exact ⟨t + 1, by omega, by omega, by go_num, by rw [HR.out], HS1⟩
          case measure => simp [intOf]; omega
    · obtain rfl : t = 16 := by omega
      go_wp2_with fail
      go_ret2
      exact ⟨rfl, hS.out.1.congr (fun i hi => outAt_end f n i (HG.out.2.1 i hi).2), hS.out.2⟩

end Go.Proofs.Ytbcnlggkoidmmaa

namespace Go.Proofs.Ytbcnlggkoidmmaa
open Go.RowKit OutMath StepMath

theorem p2_pow (m : Nat) : p2 m = ((2 ^ m : Nat) : Int) := (pow_cast m).symm
theorem from_next (c k j : Nat) : ((fromN c k (j + 1) : Nat) : Int) = ((fromN c k j : Nat) : Int) + p2 (bitsN k j) := by
  rw [p2_pow, ← Int.natCast_add]
  rfl
theorem ret_ii {k : IntKind} {a b c d : Int} (h : a = b) (h' : c = d) : Ending.returned (.tuple #[.int k a, .int k c]) = .returned (.tuple #[.int k b, .int k d]) := by rw [h, h']
theorem ret_iii {k : IntKind} {a b c d x y : Int} (h : a = b) (h' : c = d) (h2 : x = y) : Ending.returned (.tuple #[.int k a, .int k c, .int k x]) = .returned (.tuple #[.int k b, .int k d, .int k y]) := by rw [h, h', h2]
theorem ret_ib {k : IntKind} {a b : Int} {c d : Bool} (h : a = b) (h' : c = d) : Ending.returned (.tuple #[.int k a, .bool c]) = .returned (.tuple #[.int k b, .bool d]) := by rw [h, h']

end Go.Proofs.Ytbcnlggkoidmmaa

namespace Go.Proofs.Ytbcnlggkoidmmaa
open Go.RowKit Go.Joins OutMath StepMath

theorem bits4 {j : Nat} (h : 4 ≤ j) : ((j : Int) - 4).tdiv 4 = ((bitsN 4 j : Nat) : Int) := by
  rw [Int.tdiv_eq_ediv_of_nonneg (by omega)]
  unfold bitsN
  omega

set_option maxHeartbeats 800000 in
theorem specLenBits (j : Nat) (w : World) (h : j < 28) :
    Calls Try.prog 47 #[.int .i64 (257 + (j : Int))] w fun e w' => e = .returned (.tuple #[.int .i64 ((bitsN 4 j : Nat) : Int), .int .i64 ((fromN 3 4 j : Nat) : Int)]) ∧ w' = w := by
  by_cases h8 : j < 8
  · have e1 := (len_small j (by omega)).1
    have e2 := (len_bits j h).2 h8
    rw [e1, e2]
    have d : decide ((257 : Int) + (j : Int) < 265) = true := decide_eq_true (by omega)
    have d2 : (257 : Int) + (j : Int) < 265 := by omega
    go_enter Try.func47, Try.ntmps47
    go_wp2_with fail
    go_ret2
    exact ⟨ret_ii rfl (by omega), rfl⟩
  · have d : decide ((257 : Int) + (j : Int) < 265) = false := decide_eq_false (by omega)
    have d2 : ¬ (257 : Int) + (j : Int) < 265 := by omega
    have d3 : ((257 : Int) + (j : Int) == 285) = false := by simp; omega
    have hq : ((257 : Int) + (j : Int) - 261).tdiv 4 = ((bitsN 4 j : Nat) : Int) := by
      rw [show (257 : Int) + (j : Int) - 261 = (j : Int) - 4 by omega]
      exact bits4 (by omega)
    have hb := (len_bits j h).1
    go_enter Try.func47, Try.ntmps47
    go_wp2_with fail
    go_loop [5, 6] (fun x i => ∃ q : Nat, 8 ≤ q ∧ q ≤ j ∧ i = .int .i64 (257 + (q : Int)) ∧ x = .int .i64 ((fromN 3 4 q : Nat) : Int)) (fun _ i => 300 - (intOf i).toNat)
    case atStart => exact ⟨8, by omega, by omega, rfl, by rw [len_8]; rfl⟩
    case round =>
      obtain ⟨q, hq1, hq2, rfl, rfl⟩ := hrel
      have hf := from_le (c := 3) (k := 4) (show q ≤ 28 by omega)
      rw [len_28] at hf
      by_cases hlt : q < j
      · have g1 : decide ((257 : Int) + (q : Int) < 257 + (j : Int)) = true := decide_eq_true (by omega)
        have g2 : (257 : Int) + (q : Int) < 257 + (j : Int) := by omega
        have g3 : ((257 : Int) + (q : Int) - 261).tdiv 4 = ((bitsN 4 q : Nat) : Int) := by
          rw [show (257 : Int) + (q : Int) - 261 = (q : Int) - 4 by omega]
          exact bits4 (by omega)
        have g4 := (len_bits q (by omega)).1
        have g5 := p2_le (show bitsN 4 q ≤ 5 by omega)
        have g6 : p2 5 = 32 := by decide +kernel
        have g7 := p2_pos (bitsN 4 q)
        have HN := hid_of (from_next 3 4 q)
        go_wp2_with fail
        refine (pow_any _ _ (by omega)).mono ?_
        rintro e w1 ⟨rfl, rfl⟩
        go_wp2_with fail
        go_round
        case rel => exact ⟨q + 1, by omega, by omega, by go_num, by rw [HN.out]⟩
        case measure => simp [intOf]; omega
      · obtain rfl : q = j := by omega
        go_wp2_with fail
        go_ret2
        exact ⟨rfl, rfl⟩

theorem specLenBits_last (w : World) :
    Calls Try.prog 47 #[.int .i64 285] w fun e w' => e = .returned (.tuple #[.int .i64 0, .int .i64 258]) ∧ w' = w := by
  go_enter Try.func47, Try.ntmps47
  go_wp2_with fail
  go_ret2
  exact ⟨rfl, rfl⟩

/-- What the ring of LengthCode has at hand: symbol, bits, least length. -/
def lenSt (n q : Nat) : Nat × Nat × Nat := if q = 0 then (285, 0, 258) else (257 + findN 3 4 n q, bitsN 4 (findN 3 4 n q), fromN 3 4 (findN 3 4 n q))
theorem lenSt_hit {n q : Nat} (h : fromN 3 4 q ≤ n) : lenSt n (q + 1) = (257 + q, bitsN 4 q, fromN 3 4 q) := by
  unfold lenSt
  rw [if_neg (by omega), find_step, if_pos h]
theorem lenSt_miss {n q : Nat} (h : ¬ fromN 3 4 q ≤ n) (h3 : 3 ≤ n) : lenSt n (q + 1) = lenSt n q := by
  have hq : q ≠ 0 := fun e => by subst e; exact h h3
  unfold lenSt
  rw [if_neg (by omega), if_neg hq, find_step, if_neg h]
theorem lenSt_done {n : Nat} : lenSt n 28 = (257 + findN 3 4 n 28, bitsN 4 (findN 3 4 n 28), fromN 3 4 (findN 3 4 n 28)) := rfl

set_option maxHeartbeats 1600000 in
theorem specLenCode_in (n : Nat) (w : World) (h3 : 3 ≤ n) (h : n < 258) :
    Calls Try.prog 23 #[.int .i64 (n : Int)] w fun e w' => e = .returned (.tuple #[.int .i64 (((lenCode n).1 : Nat) : Int), .int .i64 (((lenCode n).2.1 : Nat) : Int), .int .i64 (((lenCode n).2.2 : Nat) : Int)]) ∧ w' = w := by
  have hc : lenCode n = (257 + findN 3 4 n 28, bitsN 4 (findN 3 4 n 28), n - fromN 3 4 (findN 3 4 n 28)) := by
    unfold lenCode
    rw [if_pos h]
  rw [hc]
  have hfa := len_fact h3 h
  have d1 : decide ((n : Int) < 258) = true := decide_eq_true (by omega)
  go_enter Try.func23, Try.ntmps23
  go_wp2_with fail
  refine (in_yes _ _ _ _ (by omega) (by omega)).mono ?_
  rintro e w1 ⟨rfl, rfl⟩
  go_wp2_with fail
  go_loop [5, 6, 7, 8] (fun x y z i => ∃ q : Nat, q ≤ 28 ∧ i = .int .i64 (257 + (q : Int)) ∧ x = .int .i64 ((lenSt n q).1 : Nat) ∧ y = .int .i64 ((lenSt n q).2.1 : Nat) ∧ z = .int .i64 ((lenSt n q).2.2 : Nat)) (fun _ _ _ i => 300 - (intOf i).toNat)
  case atStart => exact ⟨0, by omega, rfl, rfl, rfl, rfl⟩
  case round =>
    obtain ⟨q, hq, rfl, rfl, rfl, rfl⟩ := hrel
    by_cases hlt : q < 28
    · have g1 : decide ((257 : Int) + (q : Int) < 285) = true := decide_eq_true (by omega)
      have g2 : (257 : Int) + (q : Int) < 285 := by omega
      have hlb := specLenBits q w1 hlt
      go_wp2_with fail
      refine hlb.mono ?_
      rintro e w2 ⟨rfl, rfl⟩
      clear hlb
      by_cases hf : fromN 3 4 q ≤ n
      · have HN := hid_of (lenSt_hit hf)
        have d : decide (((fromN 3 4 q : Nat) : Int) ≤ (n : Int)) = true := decide_eq_true (by omega)
        go_wp2_with fail
        go_round
        case rel => exact ⟨q + 1, by omega, by go_num, by rw [HN.out]; rfl, by rw [HN.out], by rw [HN.out]⟩
        case measure => simp [intOf]; omega
      · have HN := hid_of (lenSt_miss hf h3)
        have d : decide (((fromN 3 4 q : Nat) : Int) ≤ (n : Int)) = false := decide_eq_false (by omega)
        go_wp2_with fail
        go_round
        case rel => exact ⟨q + 1, by omega, by go_num, by rw [HN.out], by rw [HN.out], by rw [HN.out]⟩
        case measure => simp [intOf]; omega
    · obtain rfl : q = 28 := by omega
      rw [lenSt_done]
      have hr1 := hfa.2.1
      have g0 := (len_bits _ hfa.1).1
      have g1 := hfa.1
      obtain ⟨j, hj⟩ : ∃ j, j = findN 3 4 n 28 := ⟨_, rfl⟩
      obtain ⟨z, hz⟩ : ∃ z, z = fromN 3 4 j := ⟨_, rfl⟩
      rw [← hj] at hr1 g0 g1
      rw [← hz] at hr1
      rw [← hj, ← hz]
      have HJ := hid_of hj
      have HZ := hid_of hz
      clear hfa hc hj hz
      go_wp2_with fail
      go_ret3
      refine ⟨ret_iii ?_ ?_ ?_, rfl⟩
      · rw [← HJ.out]
      · rw [← HJ.out]
      · rw [← HJ.out, ← HZ.out]; omega

theorem specLenCode_last (w : World) :
    Calls Try.prog 23 #[.int .i64 258] w fun e w' => e = .returned (.tuple #[.int .i64 285, .int .i64 0, .int .i64 0]) ∧ w' = w := by
  go_enter Try.func23, Try.ntmps23
  go_wp2_with fail
  refine (in_yes _ _ _ _ (by omega) (by omega)).mono ?_
  rintro e w1 ⟨rfl, rfl⟩
  go_wp2_with fail
  go_loop [5, 6, 7, 8] (fun x y z i => x = .int .i64 285 ∧ y = .int .i64 0 ∧ z = .int .i64 258 ∧ i = .int .i64 257) (fun _ _ _ _ => 0)
  case atStart => exact ⟨rfl, rfl, rfl, rfl⟩
  case round =>
    obtain ⟨rfl, rfl, rfl, rfl⟩ := hrel
    go_wp2_with fail
    go_ret3
    exact ⟨rfl, rfl⟩
theorem specLenCode_out (n : Int) (w : World) (h : ¬ (3 ≤ n ∧ n ≤ 258)) :
    Calls Try.prog 23 #[.int .i64 n] w fun e w' => e = .returned (.tuple #[.int .i64 0, .int .i64 0, .int .i64 0]) ∧ w' = w := by
  go_enter Try.func23, Try.ntmps23
  go_wp2_with fail
  refine (in_no _ _ _ _ h).mono ?_
  rintro e w1 ⟨rfl, rfl⟩
  go_wp2_with fail
  go_ret3
  exact ⟨rfl, rfl⟩
theorem specLenCode (n : Int) (w : World) :
    Calls Try.prog 23 #[.int .i64 n] w fun e w' => e = .returned (.tuple #[.int .i64 (LengthCodeOf n).1, .int .i64 (LengthCodeOf n).2.1, .int .i64 (LengthCodeOf n).2.2]) ∧ w' = w := by
  unfold LengthCodeOf
  by_cases h : 3 ≤ n ∧ n ≤ 258
  · rw [if_pos h]
    obtain ⟨m, rfl⟩ := Int.eq_ofNat_of_zero_le (show 0 ≤ n by omega)
    rw [Int.toNat_natCast]
    by_cases h1 : m < 258
    · exact specLenCode_in m w (by omega) h1
    · obtain rfl : m = 258 := by omega
      exact specLenCode_last w
  · rw [if_neg h]
    exact specLenCode_out n w h

end Go.Proofs.Ytbcnlggkoidmmaa
