/-
  The walks of the program's counts of lengths.
-/
import Derived.Test.YtpecmolloohklaaRows
import Derived.Test.YtpecmolloohklaaBase
import Derived.Test.YtpecmolloohklaaOutMath
import Derived.Test.YtpecmolloohklaaCodeMath
import Derived.Test.YtpecmolloohklaaFullMath
import Derived.Test.YtpecmolloohklaaSixLib
import Derived.Test.YtpecmolloohklaaOwnLib
import Derived.Test.YtpecmolloohklaaIntsLib
import Derived.WalkKit
import Derived.ProofKit
import Derived.WalkLawsBesides
import Derived.Deep.QuietTactic
import Derived.RegionTactic
import Derived.Lib.SmallJoins
namespace Go.Proofs.Ytpecmolloohklaa
open Go.RowKit Go.Joins OutMath CodeMath

theorem cs_here (f : Nat → Int) (k : Nat) (h : 0 < f k) (s : Nat) : upd (cs f k) (f k).toNat (cs f k (f k).toNat + 1) s = cs f (k + 1) s := by
  rw [cs_step f k (by omega)]
  unfold upd
  by_cases h1 : s = (f k).toNat
  · rw [if_pos h1, if_pos ⟨h, h1⟩, h1]
  · rw [if_neg h1, if_neg (by omega)]
    omega
theorem cs_skip (f : Nat → Int) (k : Nat) (h : f k = 0) (s : Nat) : cs f k s = cs f (k + 1) s := by
  rw [cs_step f k (by omega), if_neg (by omega)]
  omega

/-- What the ring of countLengths has at hand. -/
def CntSt (w w' : World) (f : Nat → Int) (j : Nat) : Prop := Six w' (w.heap.size + 1) 68 (cs f j) ∧ Six w' w.heap.size 68 (fun _ => 0) ∧ Below w.heap.size w w' ∧ OkLens f j

theorem cnt_start (w : World) (f : Nat → Int) : CntSt w ((w.alloc (.cells (six fun _ => 0) 68)).alloc (.cells (six fun _ => 0) 68)) f 0 := by
  refine ⟨?_, ?_, bal (bstart _ _) _, fun i hi => absurd hi (Nat.not_lt_zero i)⟩
  · refine Six.congr (g := fun _ => 0) ?_ (fun s _ => (cs_start f s).symm)
    have k := heap_alloc_new (w.alloc (.cells (six fun _ => 0) 68)) (.cells (six fun _ => 0) 68)
    rw [show (w.alloc (.cells (six fun _ => 0) 68)).heap.size = w.heap.size + 1 by simp] at k
    exact k
  · show _ = _
    rw [Below.heap_alloc _ _ _ (by simp)]
    exact heap_alloc_new w _

set_option maxHeartbeats 800000 in
theorem count_yes (a : Option Addr) (n cap : Nat) (f : Nat → Int) (w : World) (hC : Came w a n f) (hm : n ≤ 288) (hok : OkLens f n) :
    Calls Try.prog 42 #[.slice a n cap] w fun e w' => e = .returned (.tuple #[.agg (six (cs f n)), .bool true]) ∧ Below w.heap.size w w' := by
  have HC : Hid (Came w a n f) := hC
  have HO : Hid (OkLens f n) := hok
  have H0 := hid_of (cnt_start w f)
  clear hC hok
  go_enter Try.func42, Try.ntmps42
  go_wp2_with fail
  go_loopw [13] (fun i w' => ∃ j : Nat, j ≤ n ∧ i = .int .i64 j ∧ Hid (CntSt w w' f j)) (fun i _ => n - (intOf i).toNat)
  case atStart => exact ⟨0, Nat.zero_le _, rfl, H0⟩
  case round =>
    clear H0
    obtain ⟨j, hj, rfl, hS⟩ := hrel
    by_cases hlt : j < n
    · rcases HC.out with h0 | ⟨g, off, rfl, hg, hc⟩
      · omega
      · have c0 : wr.cell? ⟨g, off + j, none⟩ = some (.int .i64 (f j)) := (hS.out.2.2.1.cell (p := ⟨g, off + j, none⟩) hg).trans (hc j hlt)
        have hl2 : g < wr.heap.size := Nat.lt_of_lt_of_le hg hS.out.2.2.1.size
        clear hc
        obtain ⟨i0, i1⟩ := HO.out j hlt
        have hok1 : Hid (OkLens f (j + 1)) := fun i hi => HO.out i (by omega)
        by_cases hpos : 0 < f j
        · obtain ⟨m, hmj⟩ := Int.eq_ofNat_of_zero_le i0
          have cm := hS.out.1.c m (by omega)
          have fm := hS.out.1.f m
          have hlb := hS.out.1.lt
          have hcb := cs_bd f j m
          have HS1 : Hid (CntSt w (wr.setCell ⟨w.heap.size + 1, m, none⟩ (.int .i64 (cs f j m + 1))) f (j + 1)) := by
            refine ⟨(hS.out.1.set m _).congr (fun i _ => ?_), ?_, Below.setCell (p := ⟨w.heap.size + 1, m, none⟩) hS.out.2.2.1 (Nat.le_succ _) _, hok1.out⟩
            · have := cs_here f j hpos i
              rw [show (f j).toNat = m by omega] at this
              exact this
            · show _ = _
              rw [Below.heap_setCell _ _ _ _ (show w.heap.size ≠ w.heap.size + 1 by omega)]
              exact hS.out.2.1
          rw [hmj] at c0 hpos
          have d : decide ((0 : Int) < (m : Int)) = true := by simpa using hpos
          go_wp2_with fail
          go_roundw
          case rel => exact ⟨j + 1, by omega, by go_num, HS1⟩
          case measure => simp [intOf]; omega
        · have e0 : f j = 0 := by omega
          have HS1 : Hid (CntSt w wr f (j + 1)) := ⟨hS.out.1.congr (fun i _ => cs_skip f j e0 i), hS.out.2.1, hS.out.2.2.1, hok1.out⟩
          rw [e0] at c0
          go_wp2_with fail
          go_roundw
          case rel => exact ⟨j + 1, by omega, by go_num, HS1⟩
          case measure => simp [intOf]; omega
    · obtain rfl : j = n := by omega
      have cc := hS.out.1.c
      have fc := hS.out.1.f
      have lc := hS.out.1.lt
      have cr := hS.out.2.1.c
      have fr := hS.out.2.1.f
      have hB := hS.out.2.2.1
      go_wp2_with fail
      refine bodyPost_ret (v := .tuple #[.agg (six (cs f j)), .bool true]) (by simp [results, Try.results42, go_sem, cr]) rfl ⟨rfl, ?_⟩
      iterate 16 refine Below.setCell ?_ (by simp) _
      exact hB

theorem count_long (a : Option Addr) (n cap : Nat) (w : World) (hn : n ≤ 1048576) (hm : ¬ n ≤ 288) :
    Calls Try.prog 42 #[.slice a n cap] w fun e w' => e = .returned (.tuple #[.agg (six fun _ => 0), .bool false]) ∧ Below w.heap.size w w' := by
  go_enter Try.func42, Try.ntmps42
  go_wp2_with fail
  exact bodyPost_ret (v := .tuple #[.agg (six fun _ => 0), .bool false]) (by simp [results, Try.results42, go_sem]) rfl ⟨rfl, bal (bstart _ _) _⟩

set_option maxHeartbeats 800000 in
theorem count_bad (a : Option Addr) (n cap : Nat) (f : Nat → Int) (w : World) (hC : Came w a n f) (hm : n ≤ 288) (hf : ∀ i, i < n → (Lit.int .i64 (f i)).wf = true) (hb : ¬ OkLens f n) :
    Calls Try.prog 42 #[.slice a n cap] w fun e w' => e = .returned (.tuple #[.agg (six fun _ => 0), .bool false]) ∧ Below w.heap.size w w' := by
  have HC : Hid (Came w a n f) := hC
  have HB : Hid (¬ OkLens f n) := hb
  have HF : Hid (∀ i, i < n → (Lit.int .i64 (f i)).wf = true) := hf
  have H0 := hid_of (cnt_start w f)
  clear hC hb hf
  go_enter Try.func42, Try.ntmps42
  go_wp2_with fail
  go_loopw [13] (fun i w' => ∃ j : Nat, j ≤ n ∧ i = .int .i64 j ∧ Hid (CntSt w w' f j)) (fun i _ => n - (intOf i).toNat)
  case atStart => exact ⟨0, Nat.zero_le _, rfl, H0⟩
  case round =>
    clear H0
    obtain ⟨j, hj, rfl, hS⟩ := hrel
    by_cases hlt : j < n
    · rcases HC.out with h0 | ⟨g, off, rfl, hg, hc⟩
      · omega
      · have c0 : wr.cell? ⟨g, off + j, none⟩ = some (.int .i64 (f j)) := (hS.out.2.2.1.cell (p := ⟨g, off + j, none⟩) hg).trans (hc j hlt)
        have hl2 : g < wr.heap.size := Nat.lt_of_lt_of_le hg hS.out.2.2.1.size
        clear hc
        by_cases hin : 0 ≤ f j ∧ f j ≤ 15
        · obtain ⟨i0, i1⟩ := hin
          have hok1 : Hid (OkLens f (j + 1)) := fun i hi => by
            by_cases e : i = j
            · rw [e]; exact ⟨i0, i1⟩
            · exact hS.out.2.2.2 i (by omega)
          by_cases hpos : 0 < f j
          · obtain ⟨m, hmj⟩ := Int.eq_ofNat_of_zero_le i0
            have cm := hS.out.1.c m (by omega)
            have fm := hS.out.1.f m
            have hlb := hS.out.1.lt
            have hcb := cs_bd f j m
            have HS1 : Hid (CntSt w (wr.setCell ⟨w.heap.size + 1, m, none⟩ (.int .i64 (cs f j m + 1))) f (j + 1)) := by
              refine ⟨(hS.out.1.set m _).congr (fun i _ => ?_), ?_, Below.setCell (p := ⟨w.heap.size + 1, m, none⟩) hS.out.2.2.1 (Nat.le_succ _) _, hok1.out⟩
              · have := cs_here f j hpos i
                rw [show (f j).toNat = m by omega] at this
                exact this
              · show _ = _
                rw [Below.heap_setCell _ _ _ _ (show w.heap.size ≠ w.heap.size + 1 by omega)]
                exact hS.out.2.1
            rw [hmj] at c0 hpos
            have d : decide ((0 : Int) < (m : Int)) = true := by simpa using hpos
            go_wp2_with fail
            go_roundw
            case rel => exact ⟨j + 1, by omega, by go_num, HS1⟩
            case measure => simp [intOf]; omega
          · have e0 : f j = 0 := by omega
            have HS1 : Hid (CntSt w wr f (j + 1)) := ⟨hS.out.1.congr (fun i _ => cs_skip f j e0 i), hS.out.2.1, hS.out.2.2.1, hok1.out⟩
            rw [e0] at c0
            go_wp2_with fail
            go_roundw
            case rel => exact ⟨j + 1, by omega, by go_num, HS1⟩
            case measure => simp [intOf]; omega
        · have cr := hS.out.2.1.c
          have fr := hS.out.2.1.f
          have lr := hS.out.2.1.lt
          have hB := hS.out.2.2.1
          by_cases q0 : f j < 0
          · have d0 : decide (f j < 0) = true := by simpa using q0
            clear hin
            go_wp2_with fail
            refine bodyPost_ret (v := .tuple #[.agg (six fun _ => 0), .bool false]) (by simp [results, Try.results42, go_sem, cr]) rfl ⟨rfl, ?_⟩
            iterate 16 refine Below.setCell ?_ (by simp) _
            exact hB
          · have d0 : decide (f j < 0) = false := by simpa using q0
            have q1 : 15 < f j := by omega
            have d1 : decide (15 < f j) = true := by simpa using q1
            clear hin
            go_wp2_with fail
            refine bodyPost_ret (v := .tuple #[.agg (six fun _ => 0), .bool false]) (by simp [results, Try.results42, go_sem, cr]) rfl ⟨rfl, ?_⟩
            iterate 16 refine Below.setCell ?_ (by simp) _
            exact hB
    · obtain rfl : j = n := by omega
      exact absurd hS.out.2.2.2 HB.out

theorem count_no (a : Option Addr) (n cap : Nat) (f : Nat → Int) (w : World) (hC : Came w a n f) (hn : n ≤ 1048576) (hf : ∀ i, i < n → (Lit.int .i64 (f i)).wf = true) (hb : ¬ (n ≤ 288 ∧ OkLens f n)) :
    Calls Try.prog 42 #[.slice a n cap] w fun e w' => e = .returned (.tuple #[.agg (six fun _ => 0), .bool false]) ∧ Below w.heap.size w w' := by
  by_cases hm : n ≤ 288
  · exact count_bad a n cap f w hC hm hf (fun h => hb ⟨hm, h⟩)
  · exact count_long a n cap w hn hm

end Go.Proofs.Ytpecmolloohklaa
