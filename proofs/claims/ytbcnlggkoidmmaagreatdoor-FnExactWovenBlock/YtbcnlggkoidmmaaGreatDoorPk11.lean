/-
  The walks of the document's model of the symbols of distances.
  The walk of the document's model: in which order the lengths of the third code come.
  A list of numbers, made.
  Arrays of sixteen numbers. Nothing here speaks of the program.
  The walks of the program's counts of lengths.
  The walk of what the program's counts of lengths are full to.
  Arrays of sixteen numbers, compared as values.
  What the program's function is to answer.
-/
import Derived.Test.YtbcnlggkoidmmaaGreatDoorRows
import Derived.Test.YtbcnlggkoidmmaaGreatDoorPk01
import Derived.Test.YtbcnlggkoidmmaaGreatDoorPk08
import Derived.Test.YtbcnlggkoidmmaaGreatDoorPk07
import Derived.Test.YtbcnlggkoidmmaaGreatDoorPk02
import Derived.Test.YtbcnlggkoidmmaaGreatDoorPk09
import Derived.Test.YtbcnlggkoidmmaaGreatDoorPk05
import Derived.Test.YtbcnlggkoidmmaaGreatDoorPk06
import Derived.WalkKit
import Derived.ProofKit
import Derived.WalkLawsBesides
import Derived.Lib.SmallJoins
import Derived.OwnWalk
import Derived.Below
import Derived.Laws.MakeOwn
import Derived.Deep.QuietTactic
import Derived.RegionTactic
import Derived.ChangeKeysEq
namespace Go.Proofs.YtbcnlggkoidmmaaGreatDoor
open Go.RowKit Go.Joins OutMath StepMath

theorem bits2 {j : Nat} (h : 2 ≤ j) : ((j : Int) - 2).tdiv 2 = ((bitsN 2 j : Nat) : Int) := by
  rw [Int.tdiv_eq_ediv_of_nonneg (by omega)]
  unfold bitsN
  omega

set_option maxHeartbeats 800000 in
theorem specDistBits (j : Nat) (w : World) (h : j < 30) :
    Calls Tryz.prog 128 #[.int .i64 (j : Int)] w fun e w' => e = .returned (.tuple #[.int .i64 ((bitsN 2 j : Nat) : Int), .int .i64 ((fromN 1 2 j : Nat) : Int)]) ∧ w' = w := by
  by_cases h4 : j < 4
  · have e1 := (dist_small j (by omega)).1
    have e2 := (dist_bits j h).2 h4
    rw [e1, e2]
    have d : decide ((j : Int) < 4) = true := decide_eq_true (by omega)
    go_enter Tryz.func128, Tryz.ntmps128
    go_wp2_with fail
    go_ret2
    exact ⟨ret_ii rfl (by omega), rfl⟩
  · have d : decide ((j : Int) < 4) = false := decide_eq_false (by omega)
    have hq := bits2 (show 2 ≤ j by omega)
    have hb := (dist_bits j h).1
    go_enter Tryz.func128, Tryz.ntmps128
    go_wp2_with fail
    go_loop [4, 5] (fun x i => ∃ q : Nat, 4 ≤ q ∧ q ≤ j ∧ i = .int .i64 (q : Int) ∧ x = .int .i64 ((fromN 1 2 q : Nat) : Int)) (fun _ i => 300 - (intOf i).toNat)
    case atStart => exact ⟨4, by omega, by omega, rfl, by rw [dist_4]; rfl⟩
    case round =>
      obtain ⟨q, hq1, hq2, rfl, rfl⟩ := hrel
      have hf := from_le (c := 1) (k := 2) (show q ≤ 30 by omega)
      rw [dist_30] at hf
      by_cases hlt : q < j
      · have g3 := bits2 (show 2 ≤ q by omega)
        have g4 := (dist_bits q (by omega)).1
        have g5 := p2_le (show bitsN 2 q ≤ 13 by omega)
        have g6 : p2 13 = 8192 := by decide +kernel
        have g7 := p2_pos (bitsN 2 q)
        have HN := hid_of (from_next 1 2 q)
        go_wp2_with fail
        refine (pow_any _ _ (by omega)).mono ?_
        rintro e w1 ⟨rfl, rfl⟩
        go_wp2_with fail
        go_round
        case rel => exact ⟨q + 1, by omega, by omega, by go_num, by rw [HN.out]⟩
        case measure => simp [intOf]; omega
      · obtain rfl : q = j := by omega
        go_wp2_with fail
        go_ret2
        exact ⟨rfl, rfl⟩

/-- What the ring of DistCode has at hand: symbol, bits, least distance. -/
def distSt (n q : Nat) : Nat × Nat × Nat := (findN 1 2 n q, bitsN 2 (findN 1 2 n q), fromN 1 2 (findN 1 2 n q))
theorem distSt_hit {n q : Nat} (h : fromN 1 2 q ≤ n) : distSt n (q + 1) = (q, bitsN 2 q, fromN 1 2 q) := by
  unfold distSt
  rw [find_step, if_pos h]
theorem distSt_miss {n q : Nat} (h : ¬ fromN 1 2 q ≤ n) : distSt n (q + 1) = distSt n q := by
  unfold distSt
  rw [find_step, if_neg h]
theorem distSt_zero (n : Nat) : distSt n 0 = (0, 0, 1) := by
  show (0, bitsN 2 0, 1) = _
  rw [show bitsN 2 0 = 0 by decide]
theorem distSt_done {n : Nat} : distSt n 30 = (findN 1 2 n 30, bitsN 2 (findN 1 2 n 30), fromN 1 2 (findN 1 2 n 30)) := rfl

set_option maxHeartbeats 1600000 in
theorem specDistCode_in (n : Nat) (w : World) (h1 : 1 ≤ n) (h : n ≤ 32768) :
    Calls Tryz.prog 90 #[.int .i64 (n : Int)] w fun e w' => e = .returned (.tuple #[.int .i64 (((distCode n).1 : Nat) : Int), .int .i64 (((distCode n).2.1 : Nat) : Int), .int .i64 (((distCode n).2.2 : Nat) : Int)]) ∧ w' = w := by
  have hc : distCode n = (findN 1 2 n 30, bitsN 2 (findN 1 2 n 30), n - fromN 1 2 (findN 1 2 n 30)) := rfl
  rw [hc]
  have hfa := dist_fact h1 h
  go_enter Tryz.func90, Tryz.ntmps90
  go_wp2_with fail
  refine (in_yes _ _ _ _ (by omega) (by omega)).mono ?_
  rintro e w1 ⟨rfl, rfl⟩
  go_wp2_with fail
  go_loop [5, 6, 7, 8] (fun x y z i => ∃ q : Nat, q ≤ 30 ∧ i = .int .i64 (q : Int) ∧ x = .int .i64 ((distSt n q).1 : Nat) ∧ y = .int .i64 ((distSt n q).2.1 : Nat) ∧ z = .int .i64 ((distSt n q).2.2 : Nat)) (fun _ _ _ i => 300 - (intOf i).toNat)
  case atStart => exact ⟨0, by omega, rfl, by rw [distSt_zero]; rfl, by rw [distSt_zero]; rfl, by rw [distSt_zero]; rfl⟩
  case round =>
    obtain ⟨q, hq, rfl, rfl, rfl, rfl⟩ := hrel
    by_cases hlt : q < 30
    · have g1 : decide ((q : Int) < 30) = true := decide_eq_true (by omega)
      have hlb := specDistBits q w1 hlt
      go_wp2_with fail
      refine hlb.mono ?_
      rintro e w2 ⟨rfl, rfl⟩
      clear hlb
      by_cases hf : fromN 1 2 q ≤ n
      · have HN := hid_of (distSt_hit hf)
        have d : decide (((fromN 1 2 q : Nat) : Int) ≤ (n : Int)) = true := decide_eq_true (by omega)
        go_wp2_with fail
        go_round
        case rel => exact ⟨q + 1, by omega, by go_num, by rw [HN.out], by rw [HN.out], by rw [HN.out]⟩
        case measure => simp [intOf]; omega
      · have HN := hid_of (distSt_miss hf)
        have d : decide (((fromN 1 2 q : Nat) : Int) ≤ (n : Int)) = false := decide_eq_false (by omega)
        go_wp2_with fail
        go_round
        case rel => exact ⟨q + 1, by omega, by go_num, by rw [HN.out], by rw [HN.out], by rw [HN.out]⟩
        case measure => simp [intOf]; omega
    · obtain rfl : q = 30 := by omega
      rw [distSt_done]
      have hr1 := hfa.2.1
      have g0 := (dist_bits _ hfa.1).1
      have g1 := hfa.1
      obtain ⟨j, hj⟩ : ∃ j, j = findN 1 2 n 30 := ⟨_, rfl⟩
      obtain ⟨z, hz⟩ : ∃ z, z = fromN 1 2 j := ⟨_, rfl⟩
      rw [← hj] at hr1 g0 g1
      rw [← hz] at hr1
      rw [← hj, ← hz]
      have HJ := hid_of hj
      have HZ := hid_of hz
      clear hfa hc hj hz
      go_wp2_with fail
      go_ret3
      refine ⟨ret_iii ?_ ?_ ?_, rfl⟩
      · rw [← HJ.out]
      · rw [← HJ.out]
      · rw [← HJ.out, ← HZ.out]; omega

theorem specDistCode_out (n : Int) (w : World) (h : ¬ (1 ≤ n ∧ n ≤ 32768)) :
    Calls Tryz.prog 90 #[.int .i64 n] w fun e w' => e = .returned (.tuple #[.int .i64 0, .int .i64 0, .int .i64 0]) ∧ w' = w := by
  go_enter Tryz.func90, Tryz.ntmps90
  go_wp2_with fail
  refine (in_no _ _ _ _ h).mono ?_
  rintro e w1 ⟨rfl, rfl⟩
  go_wp2_with fail
  go_ret3
  exact ⟨rfl, rfl⟩
theorem specDistCode (n : Int) (w : World) :
    Calls Tryz.prog 90 #[.int .i64 n] w fun e w' => e = .returned (.tuple #[.int .i64 (DistCodeOf n).1, .int .i64 (DistCodeOf n).2.1, .int .i64 (DistCodeOf n).2.2]) ∧ w' = w := by
  unfold DistCodeOf
  by_cases h : 1 ≤ n ∧ n ≤ 32768
  · rw [if_pos h]
    obtain ⟨m, rfl⟩ := Int.eq_ofNat_of_zero_le (show 0 ≤ n by omega)
    rw [Int.toNat_natCast]
    exact specDistCode_in m w (by omega) (by omega)
  · rw [if_neg h]
    exact specDistCode_out n w h

end Go.Proofs.YtbcnlggkoidmmaaGreatDoor

namespace Go.Proofs.YtbcnlggkoidmmaaGreatDoor
open Go.RowKit Go.Joins InfMath

theorem order_cells (w : World) : ∀ i, i < 19 → (w.alloc (.cells #[.int .i64 16, .int .i64 17, .int .i64 18, .int .i64 0, .int .i64 8, .int .i64 7, .int .i64 9, .int .i64 6, .int .i64 10, .int .i64 5, .int .i64 11, .int .i64 4, .int .i64 12, .int .i64 3, .int .i64 13, .int .i64 2, .int .i64 14, .int .i64 1, .int .i64 15] 3)).cell? ⟨w.heap.size, i, none⟩ = some (.int .i64 ((orderL.getD i 0 : Nat) : Int)) := by
  intro i hi
  rw [cell_of_block (heap_alloc_new w _) i]
  have key : ∀ i, i < 19 → (#[Value.int .i64 16, .int .i64 17, .int .i64 18, .int .i64 0, .int .i64 8, .int .i64 7, .int .i64 9, .int .i64 6, .int .i64 10, .int .i64 5, .int .i64 11, .int .i64 4, .int .i64 12, .int .i64 3, .int .i64 13, .int .i64 2, .int .i64 14, .int .i64 1, .int .i64 15] : Array Value)[i]? = some (.int .i64 ((orderL.getD i 0 : Nat) : Int)) := by
    intro i hi
    match i, hi with
    | 0, _ => rfl
    | 1, _ => rfl
    | 2, _ => rfl
    | 3, _ => rfl
    | 4, _ => rfl
    | 5, _ => rfl
    | 6, _ => rfl
    | 7, _ => rfl
    | 8, _ => rfl
    | 9, _ => rfl
    | 10, _ => rfl
    | 11, _ => rfl
    | 12, _ => rfl
    | 13, _ => rfl
    | 14, _ => rfl
    | 15, _ => rfl
    | 16, _ => rfl
    | 17, _ => rfl
    | 18, _ => rfl
    | k + 19, h => exact absurd h (by omega)
  exact key i hi

set_option maxHeartbeats 800000 in
theorem specOrder (w : World) :
    Calls Tryz.prog 48 #[] w fun e w' => e = .returned (.slice (some ⟨w.heap.size, 0, none⟩) 19 19) ∧ w.heap.size < w'.heap.size ∧ Below w.heap.size w w' ∧ ∀ i, i < 19 → w'.cell? ⟨w.heap.size, i, none⟩ = some (.int .i64 ((orderL.getD i 0 : Nat) : Int)) := by
  have HZ := hid_of (order_cells w)
  go_enter Tryz.func48, Tryz.ntmps48
  go_wp2_with fail
  go_ret
  exact ⟨rfl, by simp, bstart _ _, HZ.out⟩

end Go.Proofs.YtbcnlggkoidmmaaGreatDoor

namespace Go.Proofs.YtbcnlggkoidmmaaGreatDoor
open Go.RowKit Go.Joins

theorem info_made : (Tryz.prog.info? 3).map (fun i => (i.zero, i.size, i.bytes)) = some (some (.int .i64 0), 1, 8) := by kernel_rfl

theorem make_ints (w : World) (n : Nat) (hn : n ≤ 1048576) : (Instr.makeSlice 26 (.int .i64 n) (.int .i64 n)).run Tryz.prog w = .ok (.slice (some ⟨w.heap.size, 0, none⟩) n n) (w.alloc (.cells (madeCells #[Value.int .i64 0] n) 3)) := by
  obtain ⟨i0, hi0, hz0, hz1, hz2⟩ := info_parts info_made
  have h := run_make (P := Tryz.prog) w 26 3 i0 (.int .i64 0) Tryz.underlying26 hi0 hz0 .i64 .i64 n n (by omega) (by omega) (by rw [hz2]; omega) (by omega)
  rw [hz1, Int.toNat_natCast, Nat.mul_one] at h
  exact h

end Go.Proofs.YtbcnlggkoidmmaaGreatDoor

namespace Go.Proofs.YtbcnlggkoidmmaaGreatDoor
open Go.RowKit Go.Joins

/-- Sixteen numbers. -/
abbrev six (g : Nat → Int) : Array Value := #[.int .i64 (g 0), .int .i64 (g 1), .int .i64 (g 2), .int .i64 (g 3), .int .i64 (g 4), .int .i64 (g 5), .int .i64 (g 6), .int .i64 (g 7), .int .i64 (g 8), .int .i64 (g 9), .int .i64 (g 10), .int .i64 (g 11), .int .i64 (g 12), .int .i64 (g 13), .int .i64 (g 14), .int .i64 (g 15)]

/-- Block b is an array of sixteen numbers. -/
def Six (w : World) (b : Nat) (t : TypeId) (g : Nat → Int) : Prop := w.heap[b]? = some (.cells (fints g 16).toArray t (0, 0))
theorem Six.c {w : World} {b : Nat} {t : TypeId} {g : Nat → Int} (h : Six w b t g) (i : Nat) (hi : i < 16) : w.cell? ⟨b, i, none⟩ = some (.int .i64 (g i)) := by
  have k := cell_of_block h i
  rw [k, List.getElem?_toArray, List.getElem?_eq_getElem (by rw [fints_length]; exact hi), fints_get]
theorem Six.f {w : World} {b : Nat} {t : TypeId} {g : Nat → Int} (h : Six w b t g) (i : Nat) : w.frozen? ⟨b, i, none⟩ = false := unfrozen_of_block h i
theorem Six.lt {w : World} {b : Nat} {t : TypeId} {g : Nat → Int} (h : Six w b t g) : b < w.heap.size := block_lt h
theorem Six.set {w : World} {b : Nat} {t : TypeId} {g : Nat → Int} (h : Six w b t g) (i : Nat) (x : Int) : Six (w.setCell ⟨b, i, none⟩ (.int .i64 x)) b t (upd g i x) := by
  have k := block_setCell (i := i) h (.int .i64 x)
  unfold Six
  rw [k, ← fints_set]
  simp
theorem Six.congr {w : World} {b : Nat} {t : TypeId} {g g' : Nat → Int} (h : Six w b t g) (e : ∀ i, i < 16 → g i = g' i) : Six w b t g' := by
  unfold Six at h ⊢
  rw [← fints_congr e]
  exact h

end Go.Proofs.YtbcnlggkoidmmaaGreatDoor

namespace Go.Proofs.YtbcnlggkoidmmaaGreatDoor
open Go.RowKit Go.Joins OutMath CodeMath

theorem cs_here (f : Nat → Int) (k : Nat) (h : 0 < f k) (s : Nat) : upd (cs f k) (f k).toNat (cs f k (f k).toNat + 1) s = cs f (k + 1) s := by
  rw [cs_step f k (by omega)]
  unfold upd
  by_cases h1 : s = (f k).toNat
  · rw [if_pos h1, if_pos ⟨h, h1⟩, h1]
  · rw [if_neg h1, if_neg (by omega)]
    omega
theorem cs_skip (f : Nat → Int) (k : Nat) (h : f k = 0) (s : Nat) : cs f k s = cs f (k + 1) s := by
  rw [cs_step f k (by omega), if_neg (by omega)]
  omega

/-- What the ring of countLengths has at hand. -/
def CntSt (w w' : World) (f : Nat → Int) (j : Nat) : Prop := Six w' (w.heap.size + 1) 224 (cs f j) ∧ Six w' w.heap.size 224 (fun _ => 0) ∧ Below w.heap.size w w' ∧ OkLens f j

theorem cnt_start (w : World) (f : Nat → Int) : CntSt w ((w.alloc (.cells (six fun _ => 0) 224)).alloc (.cells (six fun _ => 0) 224)) f 0 := by
  refine ⟨?_, ?_, bal (bstart _ _) _, fun i hi => absurd hi (Nat.not_lt_zero i)⟩
  · refine Six.congr (g := fun _ => 0) ?_ (fun s _ => (cs_start f s).symm)
    have k := heap_alloc_new (w.alloc (.cells (six fun _ => 0) 224)) (.cells (six fun _ => 0) 224)
    rw [show (w.alloc (.cells (six fun _ => 0) 224)).heap.size = w.heap.size + 1 by simp] at k
    exact k
  · show _ = _
    rw [Below.heap_alloc _ _ _ (by simp)]
    exact heap_alloc_new w _

set_option maxHeartbeats 800000 in
theorem count_yes (a : Option Addr) (n cap : Nat) (f : Nat → Int) (w : World) (hC : Came w a n f) (hm : n ≤ 288) (hok : OkLens f n) :
    Calls Tryz.prog 139 #[.slice a n cap] w fun e w' => e = .returned (.tuple #[.agg (six (cs f n)), .bool true]) ∧ Below w.heap.size w w' := by
  have HC : Hid (Came w a n f) := hC
  have HO : Hid (OkLens f n) := hok
  have H0 := hid_of (cnt_start w f)
  clear hC hok
  go_enter Tryz.func139, Tryz.ntmps139
  go_wp2_with fail
  go_loopw [13] (fun i w' => ∃ j : Nat, j ≤ n ∧ i = .int .i64 j ∧ Hid (CntSt w w' f j)) (fun i _ => n - (intOf i).toNat)
  case atStart => exact ⟨0, Nat.zero_le _, rfl, H0⟩
  case round =>
    clear H0
    obtain ⟨j, hj, rfl, hS⟩ := hrel
    by_cases hlt : j < n
    · rcases HC.out with h0 | ⟨g, off, rfl, hg, hc⟩
      · omega
      · have c0 : wr.cell? ⟨g, off + j, none⟩ = some (.int .i64 (f j)) := (hS.out.2.2.1.cell (p := ⟨g, off + j, none⟩) hg).trans (hc j hlt)
        have hl2 : g < wr.heap.size := Nat.lt_of_lt_of_le hg hS.out.2.2.1.size
        clear hc
        obtain ⟨i0, i1⟩ := HO.out j hlt
        have hok1 : Hid (OkLens f (j + 1)) := fun i hi => HO.out i (by omega)
        by_cases hpos : 0 < f j
        · obtain ⟨m, hmj⟩ := Int.eq_ofNat_of_zero_le i0
          have cm := hS.out.1.c m (by omega)
          have fm := hS.out.1.f m
          have hlb := hS.out.1.lt
          have hcb := cs_bd f j m
          have HS1 : Hid (CntSt w (wr.setCell ⟨w.heap.size + 1, m, none⟩ (.int .i64 (cs f j m + 1))) f (j + 1)) := by
            refine ⟨(hS.out.1.set m _).congr (fun i _ => ?_), ?_, Below.setCell (p := ⟨w.heap.size + 1, m, none⟩) hS.out.2.2.1 (Nat.le_succ _) _, hok1.out⟩
            · have := cs_here f j hpos i
              rw [show (f j).toNat = m by omega] at this
              exact this
            · show _ = _
              rw [Below.heap_setCell _ _ _ _ (show w.heap.size ≠ w.heap.size + 1 by omega)]
              exact hS.out.2.1
          rw [hmj] at c0 hpos
          have d : decide ((0 : Int) < (m : Int)) = true := by simpa using hpos
          go_wp2_with fail
          go_roundw
          case rel => exact ⟨j + 1, by omega, by go_num, HS1⟩
          case measure => simp [intOf]; omega
        · have e0 : f j = 0 := by omega
          have HS1 : Hid (CntSt w wr f (j + 1)) := ⟨hS.out.1.congr (fun i _ => cs_skip f j e0 i), hS.out.2.1, hS.out.2.2.1, hok1.out⟩
          rw [e0] at c0
          go_wp2_with fail
          go_roundw
          case rel => exact ⟨j + 1, by omega, by go_num, HS1⟩
          case measure => simp [intOf]; omega
    · obtain rfl : j = n := by omega
      have cc := hS.out.1.c
      have fc := hS.out.1.f
      have lc := hS.out.1.lt
      have cr := hS.out.2.1.c
      have fr := hS.out.2.1.f
      have hB := hS.out.2.2.1
      go_wp2_with fail
      refine bodyPost_ret (v := .tuple #[.agg (six (cs f j)), .bool true]) (by simp [results, Tryz.results139, go_sem, cr]) rfl ⟨rfl, ?_⟩
      iterate 16 refine Below.setCell ?_ (by simp) _
      exact hB

theorem count_long (a : Option Addr) (n cap : Nat) (w : World) (hn : n ≤ 1048576) (hm : ¬ n ≤ 288) :
    Calls Tryz.prog 139 #[.slice a n cap] w fun e w' => e = .returned (.tuple #[.agg (six fun _ => 0), .bool false]) ∧ Below w.heap.size w w' := by
  go_enter Tryz.func139, Tryz.ntmps139
  go_wp2_with fail
  exact bodyPost_ret (v := .tuple #[.agg (six fun _ => 0), .bool false]) (by simp [results, Tryz.results139, go_sem]) rfl ⟨rfl, bal (bstart _ _) _⟩

set_option maxHeartbeats 800000 in
theorem count_bad (a : Option Addr) (n cap : Nat) (f : Nat → Int) (w : World) (hC : Came w a n f) (hm : n ≤ 288) (hf : ∀ i, i < n → (Lit.int .i64 (f i)).wf = true) (hb : ¬ OkLens f n) :
    Calls Tryz.prog 139 #[.slice a n cap] w fun e w' => e = .returned (.tuple #[.agg (six fun _ => 0), .bool false]) ∧ Below w.heap.size w w' := by
  have HC : Hid (Came w a n f) := hC
  have HB : Hid (¬ OkLens f n) := hb
  have HF : Hid (∀ i, i < n → (Lit.int .i64 (f i)).wf = true) := hf
  have H0 := hid_of (cnt_start w f)
  clear hC hb hf
  go_enter Tryz.func139, Tryz.ntmps139
  go_wp2_with fail
  go_loopw [13] (fun i w' => ∃ j : Nat, j ≤ n ∧ i = .int .i64 j ∧ Hid (CntSt w w' f j)) (fun i _ => n - (intOf i).toNat)
  case atStart => exact ⟨0, Nat.zero_le _, rfl, H0⟩
  case round =>
    clear H0
    obtain ⟨j, hj, rfl, hS⟩ := hrel
    by_cases hlt : j < n
    · rcases HC.out with h0 | ⟨g, off, rfl, hg, hc⟩
      · omega
      · have c0 : wr.cell? ⟨g, off + j, none⟩ = some (.int .i64 (f j)) := (hS.out.2.2.1.cell (p := ⟨g, off + j, none⟩) hg).trans (hc j hlt)
        have hl2 : g < wr.heap.size := Nat.lt_of_lt_of_le hg hS.out.2.2.1.size
        clear hc
        by_cases hin : 0 ≤ f j ∧ f j ≤ 15
        · obtain ⟨i0, i1⟩ := hin
          have hok1 : Hid (OkLens f (j + 1)) := fun i hi => by
            by_cases e : i = j
            · rw [e]; exact ⟨i0, i1⟩
            · exact hS.out.2.2.2 i (by omega)
          by_cases hpos : 0 < f j
          · obtain ⟨m, hmj⟩ := Int.eq_ofNat_of_zero_le i0
            have cm := hS.out.1.c m (by omega)
            have fm := hS.out.1.f m
            have hlb := hS.out.1.lt
            have hcb := cs_bd f j m
            have HS1 : Hid (CntSt w (wr.setCell ⟨w.heap.size + 1, m, none⟩ (.int .i64 (cs f j m + 1))) f (j + 1)) := by
              refine ⟨(hS.out.1.set m _).congr (fun i _ => ?_), ?_, Below.setCell (p := ⟨w.heap.size + 1, m, none⟩) hS.out.2.2.1 (Nat.le_succ _) _, hok1.out⟩
              · have := cs_here f j hpos i
                rw [show (f j).toNat = m by omega] at this
                exact this
              · show _ = _
                rw [Below.heap_setCell _ _ _ _ (show w.heap.size ≠ w.heap.size + 1 by omega)]
                exact hS.out.2.1
            rw [hmj] at c0 hpos
            have d : decide ((0 : Int) < (m : Int)) = true := by simpa using hpos
            go_wp2_with fail
            go_roundw
            case rel => exact ⟨j + 1, by omega, by go_num, HS1⟩
            case measure => simp [intOf]; omega
          · have e0 : f j = 0 := by omega
            have HS1 : Hid (CntSt w wr f (j + 1)) := ⟨hS.out.1.congr (fun i _ => cs_skip f j e0 i), hS.out.2.1, hS.out.2.2.1, hok1.out⟩
            rw [e0] at c0
            go_wp2_with fail
            go_roundw
            case rel => exact ⟨j + 1, by omega, by go_num, HS1⟩
            case measure => simp [intOf]; omega
        · have cr := hS.out.2.1.c
          have fr := hS.out.2.1.f
          have lr := hS.out.2.1.lt
          have hB := hS.out.2.2.1
          by_cases q0 : f j < 0
          · have d0 : decide (f j < 0) = true := by simpa using q0
            clear hin
            go_wp2_with fail
            refine bodyPost_ret (v := .tuple #[.agg (six fun _ => 0), .bool false]) (by simp [results, Tryz.results139, go_sem, cr]) rfl ⟨rfl, ?_⟩
            iterate 16 refine Below.setCell ?_ (by simp) _
            exact hB
          · have d0 : decide (f j < 0) = false := by simpa using q0
            have q1 : 15 < f j := by omega
            have d1 : decide (15 < f j) = true := by simpa using q1
            clear hin
            go_wp2_with fail
            refine bodyPost_ret (v := .tuple #[.agg (six fun _ => 0), .bool false]) (by simp [results, Tryz.results139, go_sem, cr]) rfl ⟨rfl, ?_⟩
            iterate 16 refine Below.setCell ?_ (by simp) _
            exact hB
    · obtain rfl : j = n := by omega
      exact absurd hS.out.2.2.2 HB.out

theorem count_no (a : Option Addr) (n cap : Nat) (f : Nat → Int) (w : World) (hC : Came w a n f) (hn : n ≤ 1048576) (hf : ∀ i, i < n → (Lit.int .i64 (f i)).wf = true) (hb : ¬ (n ≤ 288 ∧ OkLens f n)) :
    Calls Tryz.prog 139 #[.slice a n cap] w fun e w' => e = .returned (.tuple #[.agg (six fun _ => 0), .bool false]) ∧ Below w.heap.size w w' := by
  by_cases hm : n ≤ 288
  · exact count_bad a n cap f w hC hm hf (fun h => hb ⟨hm, h⟩)
  · exact count_long a n cap w hn hm

end Go.Proofs.YtbcnlggkoidmmaaGreatDoor

namespace Go.Proofs.YtbcnlggkoidmmaaGreatDoor
open Go.RowKit Go.Joins OutMath CodeMath

theorem six_index (g : Nat → Int) (k : Nat) (hk : k < 16) (w : World) : (Instr.index 224 (.agg (six g)) (.int .i64 (k : Int))).run Tryz.prog w = .ok (.int .i64 (g k)) w := by
  have h : (0 : Int) ≤ k ∧ (k : Int) < 16 := by omega
  have e : (fints g 16)[k]? = some (.int .i64 (g k)) := by
    rw [List.getElem?_eq_getElem (by rw [fints_length]; exact hk), fints_get]
  show (Instr.index 224 (.agg (fints g 16).toArray) (.int .i64 (k : Int))).run Tryz.prog w = _
  simp [Instr.index, run_underlying Tryz.underlying224, asIntOf, go_sem, hk, e]

set_option maxHeartbeats 800000 in
theorem fullTo_any (g : Nat → Int) (w : World) (hg : ∀ s, 0 ≤ g s ∧ g s ≤ 288) :
    Calls Tryz.prog 140 #[.agg (six g)] w fun e w' => e = .returned (.int .i64 (fullS g 16)) ∧ Below w.heap.size w w' := by
  have HG : Hid (∀ s, 0 ≤ g s ∧ g s ≤ 288) := hg
  clear hg
  go_enter Tryz.func140, Tryz.ntmps140
  go_wp2_with fail
  go_loop [3, 7] (fun x i => ∃ j : Nat, j ≤ 16 ∧ i = .int .i64 j ∧ x = .int .i64 (fullS g j)) (fun _ i => 16 - (intOf i).toNat)
  case atStart => exact ⟨0, Nat.zero_le _, rfl, rfl⟩
  case round =>
    obtain ⟨j, hj, rfl, rfl⟩ := hrel
    have hb := fullS_bd g HG.out j
    by_cases hlt : j < 16
    · have hix := fun w => six_index g j hlt w
      have hp := shl_part g HG.out j
      have hgj := HG.out j
      have HR : Hid (fullS g (j + 1) = fullS g j + g j * p2 (15 - j)) := rfl
      have e15 : ((15 : Int) - (j : Int)).toNat = 15 - j := by omega
      have HW : Hid (wrap64 (fullS g j + wrap64 (g j * 2 ^ (15 - j))) = fullS g (j + 1)) := by
        show wrap64 (fullS g j + wrap64 (g j * p2 (15 - j))) = fullS g j + g j * p2 (15 - j)
        unfold wrap64
        omega
      go_wp2_with fail
      go_round
      case rel => exact ⟨j + 1, by omega, by go_num, by rw [HW.out]⟩
      case measure => simp [intOf]; omega
    · obtain rfl : j = 16 := by omega
      go_wp2_with fail
      go_ret
      exact ⟨rfl, bstart _ _⟩

end Go.Proofs.YtbcnlggkoidmmaaGreatDoor

namespace Go.Proofs.YtbcnlggkoidmmaaGreatDoor
open Go.RowKit Go.Joins

theorem info_six : (Tryz.prog.info? 3).map (fun i => (i.zero, i.size, i.bytes)) = some (some (.int .i64 0), 1, 8) := by kernel_rfl
theorem six_part (g : Nat → Int) (k : Nat) (hk : k < 16) (w : World) : (part 3 (fints g 16).toArray (k * 1)).run Tryz.prog w = .ok (.int .i64 (g k)) w := by
  have e : (fints g 16)[k]? = some (.int .i64 (g k)) := by
    rw [List.getElem?_eq_getElem (by rw [fints_length]; exact hk), fints_get]
  simp [go_sem, e]
theorem six_items (g h : Nat → Int) (w : World) : ∀ is : List Nat, (∀ i ∈ is, i < 16) → (Op.eqItems 9999 3 1 (fints g 16).toArray (fints h 16).toArray is).run Tryz.prog w = .ok (is.all fun i => g i == h i) w
  | [], _ => by simp [Op.eqItems]
  | i :: is, hi => by
    have h1 := hi i (by simp)
    have ih := six_items g h w is (fun j hj => hi j (by simp [hj]))
    have e := run_equalIn_int (P := Tryz.prog) w 9998 3 .i64 .i64 (g i) (h i) Tryz.underlying3
    simp only [Op.eqItems, Sem.run_bind, six_part _ i h1, Result.andThen_ok, List.all_cons]
    rw [e]
    simp only [Result.andThen_ok]
    cases hb : (g i == h i)
    · simp
    · simpa using ih
theorem six_eq (g h : Nat → Int) (b : Bool) (hb : b = true ↔ ∀ s, s < 16 → g s = h s) (w : World) : (Op.equalIn 10000 224 (.agg (six g)) (.agg (six h))).run Tryz.prog w = .ok b w := by
  obtain ⟨i0, hi0, hz0, hz1, hz2⟩ := info_parts info_six
  have hc : Tryz.prog.cellsOf 3 = 1 := by kernel_rfl
  have k := run_equalIn_array (P := Tryz.prog) w 9999 (fints g 16).toArray (fints h 16).toArray Tryz.underlying224 hi0
  rw [hc, six_items g h w _ (fun i hi => List.mem_range.mp hi)] at k
  have e : b = ((List.range 16).all fun i => g i == h i) := by
    rw [Bool.eq_iff_iff, hb]
    simp
  rw [e]
  exact k

end Go.Proofs.YtbcnlggkoidmmaaGreatDoor

namespace Go.Proofs.YtbcnlggkoidmmaaGreatDoor
open Go.RowKit Go.Joins CodeMath

/-- What the program's CodeKind answers. -/
def KindAnswer : Prop := ∀ (a : Option Addr) (n cap : Nat) (f : Nat → Int) (w : World), Came w a n f → n ≤ 1048576 → (∀ i, i < n → (Lit.int .i64 (f i)).wf = true) →
    Calls Tryz.prog 113 #[.slice a n cap] w fun e w' => ∃ k : Int, e = .returned (.int .i64 k) ∧ Kind f n k ∧ Below w.heap.size w w'

end Go.Proofs.YtbcnlggkoidmmaaGreatDoor
