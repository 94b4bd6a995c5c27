/-
  The walks of the document's model of prefix codes: what lengths are full to, their kind, their codes, what they cost.
  The walks of the document's model of the codes of lengths.
  The walks of the document's model of the symbols of lengths.
-/
import Derived.Test.YtbcnlggkoidmmaaGreatDoorRows
import Derived.Test.YtbcnlggkoidmmaaGreatDoorPk01
import Derived.Test.YtbcnlggkoidmmaaGreatDoorPk02
import Derived.Test.YtbcnlggkoidmmaaGreatDoorPk08
import Derived.Test.YtbcnlggkoidmmaaGreatDoorPk07
import Derived.Test.YtbcnlggkoidmmaaGreatDoorPk05
import Derived.Test.YtbcnlggkoidmmaaGreatDoorPk09
import Derived.WalkKit
import Derived.ProofKit
import Derived.WalkLawsBesides
import Derived.Deep.QuietTactic
import Derived.RegionTactic
import Derived.Lib.SmallJoins
import Derived.OwnWalk
namespace Go.Proofs.YtbcnlggkoidmmaaGreatDoor
open Go.RowKit Go.Joins OutMath CodeMath

/-- What l03Room answers. -/
def RoomPost (f : Nat → Int) (n : Nat) (w : World) (e : Ending) (w' : World) : Prop :=
  ∃ (x : Int) (b : Bool), e = .returned (.tuple #[.int .i64 x, .bool b]) ∧ w' = w ∧ ((b = true ∧ n ≤ 288 ∧ OkLens f n ∧ x = room f n) ∨ (b = false ∧ ¬ (n ≤ 288 ∧ OkLens f n)))
theorem RoomPost.yes {f : Nat → Int} {n : Nat} {w : World} (h1 : n ≤ 288) (h2 : OkLens f n) : RoomPost f n w (.returned (.tuple #[.int .i64 (room f n), .bool true])) w := ⟨_, true, rfl, rfl, .inl ⟨rfl, h1, h2, rfl⟩⟩
theorem RoomPost.no {f : Nat → Int} {n : Nat} {w : World} (h : ¬ (n ≤ 288 ∧ OkLens f n)) : RoomPost f n w (.returned (.tuple #[.int .i64 0, .bool false])) w := ⟨_, false, rfl, rfl, .inr ⟨rfl, h⟩⟩

set_option maxHeartbeats 800000 in
theorem specRoom (a : Option Addr) (n cap : Nat) (f : Nat → Int) (w : World) (hC : Came w a n f) (hn : n ≤ 1048576) :
    Calls Tryz.prog 96 #[.slice a n cap, .int .i64 288] w (RoomPost f n w) := by
  have HC : Hid (Came w a n f) := hC
  clear hC
  by_cases hm : n ≤ 288
  · go_enter Tryz.func96, Tryz.ntmps96
    go_wp2_with fail
    go_loop [6, 7] (fun x i => ∃ j : Nat, j ≤ n ∧ i = .int .i64 j ∧ x = .int .i64 (room f j) ∧ Hid (OkLens f j)) (fun _ i => n - (intOf i).toNat)
    case atStart => exact ⟨0, Nat.zero_le _, rfl, rfl, fun i hi => absurd hi (Nat.not_lt_zero i)⟩
    case round =>
      obtain ⟨j, hj, rfl, rfl, hok⟩ := hrel
      by_cases hlt : j < n
      · have hr := room_bd f j
        have hr2 := hr.2 hok.out
        have hr1 := hr.1
        clear hr
        rcases HC.out with h0 | ⟨g, off, rfl, hg, hc⟩
        · omega
        · have c0 := hc j hlt
          clear hc
          by_cases hin : 0 ≤ f j ∧ f j ≤ 15
          · have HK : Hid (OkLens f (j + 1)) := fun i hi => by
              by_cases e : i = j
              · rw [e]; exact hin
              · exact hok.out i (by omega)
            obtain ⟨i0, i1⟩ := hin
            go_wp2_with fail
            refine (in_yes _ _ _ _ i0 i1).mono ?_
            rintro e w1 ⟨rfl, rfl⟩
            by_cases hpos : 0 < f j
            · have HR : Hid (room f (j + 1) = room f j + p2 (15 - f j).toNat) := by
                show room f j + (if 0 < f j then p2 (15 - f j).toNat else 0) = _
                rw [if_pos hpos]
              have hp := p2_le (show (15 - f j).toNat ≤ 15 by omega)
              have hp2 : p2 15 = 32768 := by decide +kernel
              have hp3 := p2_pos (15 - f j).toNat
              go_wp2_with fail
              refine (pow_int _ _ (by omega) (by omega)).mono ?_
              rintro e w1 ⟨rfl, rfl⟩
              go_wp2_with fail
              go_round
              case rel => exact ⟨j + 1, by omega, by go_num, by rw [HR.out], HK⟩
              case measure => simp [intOf]; omega
            · have HR : Hid (room f (j + 1) = room f j) := by
                show room f j + (if 0 < f j then p2 (15 - f j).toNat else 0) = _
                rw [if_neg hpos]; omega
              have d : decide (0 < f j) = false := by simpa using hpos
              go_wp2_with fail
              go_round
              case rel => exact ⟨j + 1, by omega, by go_num, by rw [HR.out], HK⟩
              case measure => simp [intOf]; omega
          · have HN : Hid (¬ (0 ≤ f j ∧ f j ≤ 15)) := hin
            clear hin
            go_wp2_with fail
            refine (in_no _ _ _ _ HN.out).mono ?_
            rintro e w1 ⟨rfl, rfl⟩
            go_wp2_with fail
            go_ret2
            exact RoomPost.no (fun h => HN.out (h.2 j hlt))
      · obtain rfl : j = n := by omega
        go_wp2_with fail
        go_ret2
        exact RoomPost.yes hm hok.out
  · go_enter Tryz.func96, Tryz.ntmps96
    go_wp2_with fail
    go_ret2
    exact RoomPost.no (fun h => hm h.1)

set_option maxHeartbeats 800000 in
theorem specKind (a : Option Addr) (n cap : Nat) (f : Nat → Int) (w : World) (hC : Came w a n f) (hn : n ≤ 1048576) :
    Calls Tryz.prog 47 #[.slice a n cap] w fun e w' => ∃ k : Int, e = .returned (.int .i64 k) ∧ Kind f n k ∧ w' = w := by
  have HC : Hid (Came w a n f) := hC
  clear hC
  go_enter Tryz.func47, Tryz.ntmps47
  go_wp2_with fail
  refine (specRoom a n cap f w HC.out hn).mono ?_
  rintro e w1 ⟨x, b, rfl, hw, (⟨rfl, hm, hok, rfl⟩ | ⟨rfl, hno⟩)⟩
  · obtain rfl : w = w1 := hw.symm
    have HK : Hid (OkLens f n) := hok
    have hr := (room_bd f n).2 hok
    have hr0 := (room_bd f n).1
    clear hok hw
    go_wp2_with fail
    go_loop [5, 6] (fun x i => ∃ j : Nat, j ≤ n ∧ i = .int .i64 j ∧ x = .int .i64 (cnt f j)) (fun _ i => n - (intOf i).toNat)
    case atStart => exact ⟨0, Nat.zero_le _, rfl, rfl⟩
    case round =>
      obtain ⟨j, hj, rfl, rfl⟩ := hrel
      have hcb := cnt_bd f j
      by_cases hlt : j < n
      · rcases HC.out with h0 | ⟨g, off, rfl, hg, hc⟩
        · omega
        · have c0 := hc j hlt
          clear hc
          by_cases hpos : 0 < f j
          · have HR : Hid (cnt f (j + 1) = cnt f j + 1) := by
              show cnt f j + (if 0 < f j then 1 else 0) = _
              rw [if_pos hpos]
            go_wp2_with fail
            go_round
            case rel => exact ⟨j + 1, by omega, by go_num, by rw [HR.out]⟩
            case measure => simp [intOf]; omega
          · have HR : Hid (cnt f (j + 1) = cnt f j) := by
              show cnt f j + (if 0 < f j then 1 else 0) = _
              rw [if_neg hpos]; omega
            have d : decide (0 < f j) = false := by simpa using hpos
            go_wp2_with fail
            go_round
            case rel => exact ⟨j + 1, by omega, by go_num, by rw [HR.out]⟩
            case measure => simp [intOf]; omega
      · obtain rfl : j = n := by omega
        have HF : Hid (∀ k, k = kindOf f j → Kind f j k) := fun k hk => .inr ⟨hm, HK.out, hk⟩
        by_cases q1 : cnt f j = 0
        · have d1 : (cnt f j == 0) = true := by simpa using q1
          go_wp2_with fail
          go_ret
          exact ⟨1, rfl, HF.out _ (by unfold kindOf; rw [if_pos q1]), rfl⟩
        · have d1 : (cnt f j == 0) = false := by simpa using q1
          by_cases q2 : room f j = 32768
          · have d2 : (room f j == 32768) = true := by simpa using q2
            go_wp2_with fail
            go_ret
            exact ⟨2, rfl, HF.out _ (by unfold kindOf; rw [if_neg q1, if_pos q2]), rfl⟩
          · have d2 : (room f j == 32768) = false := by simpa using q2
            by_cases q3 : 32768 < room f j
            · have d3 : decide (32768 < room f j) = true := by simpa using q3
              go_wp2_with fail
              go_ret
              exact ⟨5, rfl, HF.out _ (by unfold kindOf; rw [if_neg q1, if_neg q2, if_pos q3]), rfl⟩
            · have d3 : decide (32768 < room f j) = false := by simpa using q3
              by_cases q4 : cnt f j = 1 ∧ room f j = 16384
              · have d4 : (cnt f j == 1) = true := by simpa using q4.1
                have d5 : (room f j == 16384) = true := by simpa using q4.2
                go_wp2_with fail
                go_ret
                exact ⟨3, rfl, HF.out _ (by unfold kindOf; rw [if_neg q1, if_neg q2, if_neg (by omega), if_pos q4]), rfl⟩
              · have HQ : Hid (¬ (cnt f j = 1 ∧ room f j = 16384)) := q4
                by_cases q5 : cnt f j = 1
                · have d4 : (cnt f j == 1) = true := by simpa using q5
                  have d5 : (room f j == 16384) = false := by simpa using fun h => q4 ⟨q5, h⟩
                  clear q4
                  go_wp2_with fail
                  go_ret
                  exact ⟨4, rfl, HF.out _ (by unfold kindOf; rw [if_neg q1, if_neg q2, if_neg (by omega), if_neg HQ.out]), rfl⟩
                · have d4 : (cnt f j == 1) = false := by simpa using q5
                  clear q4
                  go_wp2_with fail
                  go_ret
                  exact ⟨4, rfl, HF.out _ (by unfold kindOf; rw [if_neg q1, if_neg q2, if_neg (by omega), if_neg HQ.out]), rfl⟩
  · obtain rfl : w = w1 := hw.symm
    have HN : Hid (¬ (n ≤ 288 ∧ OkLens f n)) := hno
    clear hno hw
    go_wp2_with fail
    go_ret
    exact ⟨0, rfl, .inl ⟨rfl, HN.out⟩, rfl⟩

end Go.Proofs.YtbcnlggkoidmmaaGreatDoor

namespace Go.Proofs.YtbcnlggkoidmmaaGreatDoor
open Go.RowKit Go.Joins OutMath CodeMath

theorem info_cell : (Tryz.prog.info? 3).map (fun i => (i.zero, i.size, i.bytes)) = some (some (.int .i64 0), 1, 8) := by kernel_rfl

theorem make_cells (w : World) (n : Nat) (hn : n ≤ 1048576) : (Instr.makeSlice 26 (.int .i64 n) (.int .i64 n)).run Tryz.prog w = .ok (.slice (some ⟨w.heap.size, 0, none⟩) n n) (w.alloc (.cells (madeCells #[Value.int .i64 0] n) 3)) := by
  obtain ⟨i0, hi0, hz0, hz1, hz2⟩ := info_parts info_cell
  have h := run_make (P := Tryz.prog) w 26 3 i0 (.int .i64 0) Tryz.underlying26 hi0 hz0 .i64 .i64 n n (by omega) (by omega) (by rw [hz2]; omega) (by omega)
  rw [hz1, Int.toNat_natCast, Nat.mul_one] at h
  exact h

theorem specCodes_bad (a : Option Addr) (n cap : Nat) (f : Nat → Int) (w : World) (hC : Came w a n f) (hn : n ≤ 1048576) (hB : ¬ Coded f n) :
    Calls Tryz.prog 51 #[.slice a n cap] w fun e w' => e = .returned (.tuple #[.slice (some ⟨w.heap.size, 0, none⟩) 0 0, .bool false]) ∧ w.heap.size < w'.heap.size ∧ Below w.heap.size w w' := by
  have HC : Hid (Came w a n f) := hC
  have HB : Hid (¬ Coded f n) := hB
  clear hC hB
  go_enter Tryz.func51, Tryz.ntmps51
  go_wp2_with fail
  refine (specKind a n cap f w HC.out hn).mono ?_
  rintro e w1 ⟨k, rfl, hk, hw⟩
  obtain rfl : w = w1 := hw.symm
  rcases kind_bad hk HB.out with rfl | rfl
  · clear hk
    go_wp2_with fail
    go_ret2
    exact ⟨rfl, by simp, bstart _ _⟩
  · clear hk
    go_wp2_with fail
    go_ret2
    exact ⟨rfl, by simp, bstart _ _⟩

/-- What the loops of CodesOf have at hand. -/
def CodesSt (w w' : World) (f : Nat → Int) (n : Nat) (t : Int) (i : Nat) : Prop := IOwn w' w.heap.size w.heap.size n n (outAt f n t i) ∧ Below w.heap.size w w'

set_option maxRecDepth 100000 in
set_option maxHeartbeats 1600000 in
theorem specCodes_good (a : Option Addr) (n cap : Nat) (f : Nat → Int) (w : World) (hC : Came w a n f) (hG : Coded f n) :
    Calls Tryz.prog 51 #[.slice a n cap] w fun e w' => e = .returned (.tuple #[.slice (some ⟨w.heap.size, 0, none⟩) n n, .bool true]) ∧ IOwn w' w.heap.size w.heap.size n n (codeOf f n) ∧ Below w.heap.size w w' := by
  have HC : Hid (Came w a n f) := hC
  have HG : Hid (Coded f n) := hG
  have hm := hG.1
  clear hC hG
  have hmk := make_cells w n (by omega)
  have HS : Hid (CodesSt w (w.alloc (.cells (madeCells #[Value.int .i64 0] n) 3)) f n 1 0) := ⟨(IOwn.made (base := w.heap.size) w n (by unfold maxLen; omega) (Nat.le_refl _)).congr (fun i _ => (outAt_start f n i).symm), bstart _ _⟩
  generalize w.alloc (.cells (madeCells #[Value.int .i64 0] n) 3) = w0 at hmk HS
  go_enter Tryz.func51, Tryz.ntmps51
  go_wp2_with fail
  refine (specKind a n cap f w HC.out (by omega)).mono ?_
  rintro e w1 ⟨k, rfl, hk, hw⟩
  obtain rfl : w = w1 := hw.symm
  obtain ⟨k0, k5⟩ := kind_good hk HG.out
  have d0 : (k == 0) = false := by simpa using k0
  have d5 : (k == 5) = false := by simpa using k5
  clear hk k0 k5 hw
  go_wp2_with fail
  go_loopw [6, 7] (fun x i w' => ∃ t : Nat, 1 ≤ t ∧ t ≤ 16 ∧ i = .int .i64 t ∧ x = .int .i64 (nx f n (t - 1)) ∧ Hid (CodesSt w w' f n t 0)) (fun _ i _ => 16 - (intOf i).toNat)
  case atStart => exact ⟨1, by omega, by omega, rfl, rfl, HS⟩
  case round =>
    obtain ⟨t, ht1, ht2, rfl, rfl, hS⟩ := hrel
    have hx := nx_lt f n hm (t - 1) (by omega)
    by_cases hlt : t ≤ 15
    · go_wp2_with fail
      go_loopw [6, 8] (fun x i w' => ∃ j : Nat, j ≤ n ∧ i = .int .i64 j ∧ x = .int .i64 (2 * nx f n (t - 1) + cntS f (t : Int) j) ∧ Hid (CodesSt w w' f n t j)) (fun _ i _ => n - (intOf i).toNat)
      case atStart => exact ⟨0, by omega, rfl, by simp [cntS], hS⟩
      case round =>
        obtain ⟨j, hj, rfl, rfl, hSj⟩ := hrel
        have hcb := cntS_bd f (t : Int) j
        by_cases hlt2 : j < n
        · rcases HC.out with h0 | ⟨g, off, rfl, hg, hc⟩
          · omega
          · have c0 : wr.cell? ⟨g, off + j, none⟩ = some (.int .i64 (f j)) := (hSj.out.2.cell (p := ⟨g, off + j, none⟩) hg).trans (hc j hlt2)
            have hl2 : g < wr.heap.size := Nat.lt_of_lt_of_le hg hSj.out.2.size
            clear hc
            by_cases he : f j = (t : Int)
            · have d : (f j == (t : Int)) = true := by simpa using he
              have HR : Hid (2 * nx f n (t - 1) + cntS f (t : Int) (j + 1) = 2 * nx f n (t - 1) + cntS f (t : Int) j + 1) := by
                show 2 * nx f n (t - 1) + (cntS f (t : Int) j + (if f j = (t : Int) then 1 else 0)) = _
                rw [if_pos he]; omega
              have c1 := hSj.out.1.cell j hlt2
              have f1 := hSj.out.1.free j hlt2
              have hl := hSj.out.1.lt
              have HS1 : Hid (CodesSt w (wr.setCell ⟨w.heap.size, j, none⟩ (.int .i64 (2 * nx f n (t - 1) + cntS f (t : Int) j))) f n t (j + 1)) := by
                refine ⟨(hSj.out.1.set j hlt2 _).congr (fun i _ => ?_), Below.setCell (p := ⟨w.heap.size, j, none⟩) hSj.out.2 (Nat.le_refl _) _⟩
                exact outAt_here f n t j ht1 he i
              clear he
              go_wp2_with fail
              go_roundw
              case rel => exact ⟨j + 1, by omega, by go_num, by rw [HR.out], HS1⟩
              case measure => simp [intOf]; omega
            · have d : (f j == (t : Int)) = false := by simpa using he
              have HR : Hid (2 * nx f n (t - 1) + cntS f (t : Int) (j + 1) = 2 * nx f n (t - 1) + cntS f (t : Int) j) := by
                show 2 * nx f n (t - 1) + (cntS f (t : Int) j + (if f j = (t : Int) then 1 else 0)) = _
                rw [if_neg he]; omega
              have HS1 : Hid (CodesSt w wr f n t (j + 1)) := ⟨hSj.out.1.congr (fun i _ => outAt_skip f n t j he i), hSj.out.2⟩
              clear he
              go_wp2_with fail
              go_roundw
              case rel => exact ⟨j + 1, by omega, by go_num, by rw [HR.out], HS1⟩
              case measure => simp [intOf]; omega
        · obtain rfl : j = n := by omega
          have HR : Hid (nx f j (t + 1 - 1) = 2 * nx f j (t - 1) + cntS f (t : Int) j) := by
            rw [nx_step f j t ht1, Nat.add_sub_cancel]
            exact rfl
          have HS1 : Hid (CodesSt w wr f j ((t + 1 : Nat) : Int) 0) := ⟨hSj.out.1.congr (fun i hi => outAt_turn f j t i hi), hSj.out.2⟩
          go_wp2_with fail
          go_roundw
          case rel => exact ⟨t + 1, by omega, by omega, by go_num, by rw [HR.out], HS1⟩
          case measure => simp [intOf]; omega
    · obtain rfl : t = 16 := by omega
      go_wp2_with fail
      go_ret2
      exact ⟨rfl, hS.out.1.congr (fun i hi => outAt_end f n i (HG.out.2.1 i hi).2), hS.out.2⟩

end Go.Proofs.YtbcnlggkoidmmaaGreatDoor

namespace Go.Proofs.YtbcnlggkoidmmaaGreatDoor
open Go.RowKit Go.Joins OutMath StepMath

theorem bits4 {j : Nat} (h : 4 ≤ j) : ((j : Int) - 4).tdiv 4 = ((bitsN 4 j : Nat) : Int) := by
  rw [Int.tdiv_eq_ediv_of_nonneg (by omega)]
  unfold bitsN
  omega

set_option maxHeartbeats 800000 in
theorem specLenBits (j : Nat) (w : World) (h : j < 28) :
    Calls Tryz.prog 126 #[.int .i64 (257 + (j : Int))] w fun e w' => e = .returned (.tuple #[.int .i64 ((bitsN 4 j : Nat) : Int), .int .i64 ((fromN 3 4 j : Nat) : Int)]) ∧ w' = w := by
  by_cases h8 : j < 8
  · have e1 := (len_small j (by omega)).1
    have e2 := (len_bits j h).2 h8
    rw [e1, e2]
    have d : decide ((257 : Int) + (j : Int) < 265) = true := decide_eq_true (by omega)
    have d2 : (257 : Int) + (j : Int) < 265 := by omega
    go_enter Tryz.func126, Tryz.ntmps126
    go_wp2_with fail
    go_ret2
    exact ⟨ret_ii rfl (by omega), rfl⟩
  · have d : decide ((257 : Int) + (j : Int) < 265) = false := decide_eq_false (by omega)
    have d2 : ¬ (257 : Int) + (j : Int) < 265 := by omega
    have d3 : ((257 : Int) + (j : Int) == 285) = false := by simp; omega
    have hq : ((257 : Int) + (j : Int) - 261).tdiv 4 = ((bitsN 4 j : Nat) : Int) := by
      rw [show (257 : Int) + (j : Int) - 261 = (j : Int) - 4 by omega]
      exact bits4 (by omega)
    have hb := (len_bits j h).1
    go_enter Tryz.func126, Tryz.ntmps126
    go_wp2_with fail
    go_loop [5, 6] (fun x i => ∃ q : Nat, 8 ≤ q ∧ q ≤ j ∧ i = .int .i64 (257 + (q : Int)) ∧ x = .int .i64 ((fromN 3 4 q : Nat) : Int)) (fun _ i => 300 - (intOf i).toNat)
    case atStart => exact ⟨8, by omega, by omega, rfl, by rw [len_8]; rfl⟩
    case round =>
      obtain ⟨q, hq1, hq2, rfl, rfl⟩ := hrel
      have hf := from_le (c := 3) (k := 4) (show q ≤ 28 by omega)
      rw [len_28] at hf
      by_cases hlt : q < j
      · have g1 : decide ((257 : Int) + (q : Int) < 257 + (j : Int)) = true := decide_eq_true (by omega)
        have g2 : (257 : Int) + (q : Int) < 257 + (j : Int) := by omega
        have g3 : ((257 : Int) + (q : Int) - 261).tdiv 4 = ((bitsN 4 q : Nat) : Int) := by
          rw [show (257 : Int) + (q : Int) - 261 = (q : Int) - 4 by omega]
          exact bits4 (by omega)
        have g4 := (len_bits q (by omega)).1
        have g5 := p2_le (show bitsN 4 q ≤ 5 by omega)
        have g6 : p2 5 = 32 := by decide +kernel
        have g7 := p2_pos (bitsN 4 q)
        have HN := hid_of (from_next 3 4 q)
        go_wp2_with fail
        refine (pow_any _ _ (by omega)).mono ?_
        rintro e w1 ⟨rfl, rfl⟩
        go_wp2_with fail
        go_round
        case rel => exact ⟨q + 1, by omega, by omega, by go_num, by rw [HN.out]⟩
        case measure => simp [intOf]; omega
      · obtain rfl : q = j := by omega
        go_wp2_with fail
        go_ret2
        exact ⟨rfl, rfl⟩

/-- What the ring of LengthCode has at hand: symbol, bits, least length. -/
def lenSt (n q : Nat) : Nat × Nat × Nat := if q = 0 then (285, 0, 258) else (257 + findN 3 4 n q, bitsN 4 (findN 3 4 n q), fromN 3 4 (findN 3 4 n q))
theorem lenSt_hit {n q : Nat} (h : fromN 3 4 q ≤ n) : lenSt n (q + 1) = (257 + q, bitsN 4 q, fromN 3 4 q) := by
  unfold lenSt
  rw [if_neg (by omega), find_step, if_pos h]
theorem lenSt_miss {n q : Nat} (h : ¬ fromN 3 4 q ≤ n) (h3 : 3 ≤ n) : lenSt n (q + 1) = lenSt n q := by
  have hq : q ≠ 0 := fun e => by subst e; exact h h3
  unfold lenSt
  rw [if_neg (by omega), if_neg hq, find_step, if_neg h]
theorem lenSt_done {n : Nat} : lenSt n 28 = (257 + findN 3 4 n 28, bitsN 4 (findN 3 4 n 28), fromN 3 4 (findN 3 4 n 28)) := rfl

set_option maxHeartbeats 1600000 in
theorem specLenCode_in (n : Nat) (w : World) (h3 : 3 ≤ n) (h : n < 258) :
    Calls Tryz.prog 89 #[.int .i64 (n : Int)] w fun e w' => e = .returned (.tuple #[.int .i64 (((lenCode n).1 : Nat) : Int), .int .i64 (((lenCode n).2.1 : Nat) : Int), .int .i64 (((lenCode n).2.2 : Nat) : Int)]) ∧ w' = w := by
  have hc : lenCode n = (257 + findN 3 4 n 28, bitsN 4 (findN 3 4 n 28), n - fromN 3 4 (findN 3 4 n 28)) := by
    unfold lenCode
    rw [if_pos h]
  rw [hc]
  have hfa := len_fact h3 h
  have d1 : decide ((n : Int) < 258) = true := decide_eq_true (by omega)
  go_enter Tryz.func89, Tryz.ntmps89
  go_wp2_with fail
  refine (in_yes _ _ _ _ (by omega) (by omega)).mono ?_
  rintro e w1 ⟨rfl, rfl⟩
  go_wp2_with fail
  go_loop [5, 6, 7, 8] (fun x y z i => ∃ q : Nat, q ≤ 28 ∧ i = .int .i64 (257 + (q : Int)) ∧ x = .int .i64 ((lenSt n q).1 : Nat) ∧ y = .int .i64 ((lenSt n q).2.1 : Nat) ∧ z = .int .i64 ((lenSt n q).2.2 : Nat)) (fun _ _ _ i => 300 - (intOf i).toNat)
  case atStart => exact ⟨0, by omega, rfl, rfl, rfl, rfl⟩
  case round =>
    obtain ⟨q, hq, rfl, rfl, rfl, rfl⟩ := hrel
    by_cases hlt : q < 28
    · have g1 : decide ((257 : Int) + (q : Int) < 285) = true := decide_eq_true (by omega)
      have g2 : (257 : Int) + (q : Int) < 285 := by omega
      have hlb := specLenBits q w1 hlt
      go_wp2_with fail
      refine hlb.mono ?_
      rintro e w2 ⟨rfl, rfl⟩
      clear hlb
      by_cases hf : fromN 3 4 q ≤ n
      · have HN := hid_of (lenSt_hit hf)
        have d : decide (((fromN 3 4 q : Nat) : Int) ≤ (n : Int)) = true := decide_eq_true (by omega)
        go_wp2_with fail
        go_round
        case rel => exact ⟨q + 1, by omega, by go_num, by rw [HN.out]; rfl, by rw [HN.out], by rw [HN.out]⟩
        case measure => simp [intOf]; omega
      · have HN := hid_of (lenSt_miss hf h3)
        have d : decide (((fromN 3 4 q : Nat) : Int) ≤ (n : Int)) = false := decide_eq_false (by omega)
        go_wp2_with fail
        go_round
        case rel => exact ⟨q + 1, by omega, by go_num, by rw [HN.out], by rw [HN.out], by rw [HN.out]⟩
        case measure => simp [intOf]; omega
    · obtain rfl : q = 28 := by omega
      rw [lenSt_done]
      have hr1 := hfa.2.1
      have g0 := (len_bits _ hfa.1).1
      have g1 := hfa.1
      obtain ⟨j, hj⟩ : ∃ j, j = findN 3 4 n 28 := ⟨_, rfl⟩
      obtain ⟨z, hz⟩ : ∃ z, z = fromN 3 4 j := ⟨_, rfl⟩
      rw [← hj] at hr1 g0 g1
      rw [← hz] at hr1
      rw [← hj, ← hz]
      have HJ := hid_of hj
      have HZ := hid_of hz
      clear hfa hc hj hz
      go_wp2_with fail
      go_ret3
      refine ⟨ret_iii ?_ ?_ ?_, rfl⟩
      · rw [← HJ.out]
      · rw [← HJ.out]
      · rw [← HJ.out, ← HZ.out]; omega

theorem specLenCode_last (w : World) :
    Calls Tryz.prog 89 #[.int .i64 258] w fun e w' => e = .returned (.tuple #[.int .i64 285, .int .i64 0, .int .i64 0]) ∧ w' = w := by
  go_enter Tryz.func89, Tryz.ntmps89
  go_wp2_with fail
  refine (in_yes _ _ _ _ (by omega) (by omega)).mono ?_
  rintro e w1 ⟨rfl, rfl⟩
  go_wp2_with fail
  go_loop [5, 6, 7, 8] (fun x y z i => x = .int .i64 285 ∧ y = .int .i64 0 ∧ z = .int .i64 258 ∧ i = .int .i64 257) (fun _ _ _ _ => 0)
  case atStart => exact ⟨rfl, rfl, rfl, rfl⟩
  case round =>
    obtain ⟨rfl, rfl, rfl, rfl⟩ := hrel
    go_wp2_with fail
    go_ret3
    exact ⟨rfl, rfl⟩
theorem specLenCode_out (n : Int) (w : World) (h : ¬ (3 ≤ n ∧ n ≤ 258)) :
    Calls Tryz.prog 89 #[.int .i64 n] w fun e w' => e = .returned (.tuple #[.int .i64 0, .int .i64 0, .int .i64 0]) ∧ w' = w := by
  go_enter Tryz.func89, Tryz.ntmps89
  go_wp2_with fail
  refine (in_no _ _ _ _ h).mono ?_
  rintro e w1 ⟨rfl, rfl⟩
  go_wp2_with fail
  go_ret3
  exact ⟨rfl, rfl⟩
theorem specLenCode (n : Int) (w : World) :
    Calls Tryz.prog 89 #[.int .i64 n] w fun e w' => e = .returned (.tuple #[.int .i64 (LengthCodeOf n).1, .int .i64 (LengthCodeOf n).2.1, .int .i64 (LengthCodeOf n).2.2]) ∧ w' = w := by
  unfold LengthCodeOf
  by_cases h : 3 ≤ n ∧ n ≤ 258
  · rw [if_pos h]
    obtain ⟨m, rfl⟩ := Int.eq_ofNat_of_zero_le (show 0 ≤ n by omega)
    rw [Int.toNat_natCast]
    by_cases h1 : m < 258
    · exact specLenCode_in m w (by omega) h1
    · obtain rfl : m = 258 := by omega
      exact specLenCode_last w
  · rw [if_neg h]
    exact specLenCode_out n w h

end Go.Proofs.YtbcnlggkoidmmaaGreatDoor
