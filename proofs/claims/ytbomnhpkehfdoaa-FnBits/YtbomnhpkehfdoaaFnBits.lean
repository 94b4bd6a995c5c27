/-
  Proved here: at every list of bytes FnBits returns true, with no condition: drawn numbers, put in so many bits each, are taken again, in the same order; those put with the highest bit first, bit by bit.
-/
import Derived.Test.YtbomnhpkehfdoaaRows
import Derived.Test.YtbomnhpkehfdoaaBase
import Derived.Test.YtbomnhpkehfdoaaOutMath
import Derived.Test.YtbomnhpkehfdoaaOutWalks
import Derived.Test.YtbomnhpkehfdoaaPutMath
import Derived.Test.YtbomnhpkehfdoaaTakeMath
import Derived.Test.YtbomnhpkehfdoaaBitsMath
import Derived.Test.YtbomnhpkehfdoaaOwnLib
import Derived.Test.YtbomnhpkehfdoaaPutSpec
import Derived.Test.YtbomnhpkehfdoaaMayWalks
import Derived.Test.YtbomnhpkehfdoaaPlacesWalks
import Derived.Test.YtbomnhpkehfdoaaPutBitsImpl
import Derived.Test.YtbomnhpkehfdoaaPutCodeImpl
import Derived.Test.YtbomnhpkehfdoaaTakeImpl
import Derived.Test.YtbomnhpkehfdoaaDrawLib
import Derived.Test.YtbomnhpkehfdoaaDrawSome
import Derived.Test.YtbomnhpkehfdoaaOutBoxLib
import Derived.WalkKit
import Derived.ProofKit
import Derived.WalkLawsBesides
import Derived.Deep.RegionWith
import Derived.Deep.RegionHeld3
import Derived.Deep.CutRange
import Derived.Deep.DrawnRows
import Derived.OpenShut
import Derived.ShutString
import Derived.ChangeOld
import Derived.Below
import Derived.Lib.SmallJoins
namespace Go.Proofs.Ytbomnhpkehfdoaa
open Go.ChangeShapes Go.WideShapes Go.ChangeAt Go.RowKit Go.Joins OutMath PutMath TakeMath BitsMath
open Go.ChangeMaps (open_string shut_string)

attribute [local go_sem ↓] Go.wp_at_zero Go.wp_at_succ

/-- The text behind j numbers. -/
def seqS (v n : Nat → Int) (j : Nat) : ByteArray := strOfNums (seqY v (fun i => (n i).toNat) j)
/-- How many bits there are behind j numbers. -/
def cnt (n : Nat → Int) (j : Nat) : Nat := seqC (fun i => (n i).toNat) j

theorem cnt_succ (n : Nat → Int) (j : Nat) : cnt n (j + 1) = cnt n j + (n j).toNat := rfl
theorem cnt_le {v n : Nat → Int} (h : FitNums v n) (j : Nat) : cnt n j ≤ 24 * j := seqC_le (fun i => by have := h i; omega) j
theorem seq_out {v n : Nat → Int} (h : FitNums v n) (j : Nat) (hj : j ≤ 20) : outB (seqS v n j) (cnt n j) = true :=
  outB_of_inv (seq_inv j) (seq_allB j) (show cnt n j ≤ 96000 by have := cnt_le h j; omega)
theorem seq_size (v n : Nat → Int) (j : Nat) : (seqS v n j).size = (cnt n j + 7) / 8 := (strOfNums_size _).trans (seq_inv j).1
theorem seq_may {v n : Nat → Int} (h : FitNums v n) (j : Nat) (hj : j < 20) : May (seqS v n j) (cnt n j) (v j) ((n j).toNat : Nat) := by
  obtain ⟨h1, h2, h3, h4⟩ := h j
  have hc := cnt_le h j
  refine ⟨seq_out h j (by omega), by omega, by omega, h3, ?_, by omega⟩
  rw [Int.toNat_natCast]
  exact h4
theorem seq_put (v n : Nat → Int) (j : Nat) : putOut (seqS v n j) (cnt n j) (v j) (fun i => i) (n j).toNat = seqS v n (j + 1) := by
  unfold putOut seqS
  rw [nums_back (seq_allB j)]
  rfl

theorem put_seq {v n : Nat → Int} (h : FitNums v n) (j : Nat) (hj : j < 20) (w : World) :
    Calls Try.prog 7 #[.agg #[.string (seqS v n j), .int .i64 (cnt n j : Nat)], .int .i64 (v j), .int .i64 (n j)] w fun e w' => e = .returned (.tuple #[.agg #[.string (seqS v n (j + 1)), .int .i64 (cnt n (j + 1) : Nat)], .bool true]) ∧ Below w.heap.size w w' := by
  have hm := seq_may h j hj
  have e : n j = ((n j).toNat : Int) := by have := h j; omega
  rw [← seq_put v n j, cnt_succ, e]
  rw [e] at hm
  simp only [Int.toNat_natCast] at hm ⊢
  exact implPutBits_yes (seqS v n j) (cnt n j) (v j) (n j).toNat w hm

theorem out_seq {v n : Nat → Int} (h : FitNums v n) (j : Nat) (hj : j ≤ 20) (w : World) :
    Calls Try.prog 8 #[.agg #[.string (seqS v n j), .int .i64 (cnt n j : Nat)]] w fun e w' => e = .returned (.bool true) ∧ Below w.heap.size w w' := by
  have hs := seq_size v n j
  have hc := cnt_le h j
  have hk := implOut_any (seqS v n j) (cnt n j : Nat) w (by unfold maxLen; omega) (by omega) (by omega)
  rw [seq_out h j hj] at hk
  exact hk

theorem take_seq {v n : Nat → Int} (h : FitNums v n) (L j : Nat) (hL : L ≤ 20) (hj : j < L) (w : World) :
    Calls Try.prog 9 #[.agg #[.string (seqS v n L), .int .i64 (cnt n j : Nat)], .int .i64 (n j)] w fun e w' => e = .returned (.tuple #[.int .i64 (v j), .agg #[.string (seqS v n L), .int .i64 (cnt n (j + 1) : Nat)], .bool true]) ∧ Below w.heap.size w w' := by
  obtain ⟨h1, h2, h3, h4⟩ := h j
  have e : n j = ((n j).toNat : Int) := by omega
  have hs := seq_size v n L
  have hcL := cnt_le h L
  have hmono : cnt n (j + 1) ≤ cnt n L := by
    obtain ⟨d, rfl⟩ : ∃ d, L = j + 1 + d := ⟨L - (j + 1), by omega⟩
    exact seqC_mono (j + 1) d
  rw [cnt_succ] at hmono
  have hv : num (seqS v n L) (cnt n j) (n j).toNat = v j := seq_num j L hj h3 h4
  have hk := implTake_yes (seqS v n L) (cnt n j) (n j).toNat w (by omega) (by omega) (by omega)
  rw [hv, ← e] at hk
  have e3 : ((cnt n j : Nat) : Int) + n j = ((cnt n (j + 1) : Nat) : Int) := by rw [cnt_succ]; omega
  rw [e3] at hk
  exact hk

/-- The first number, the highest bit first. -/
def codeS (v n : Nat → Int) : ByteArray := strOfNums (puts [] 0 (fun j => bitOf (v 0) ((n 0).toNat - 1 - j)) (n 0).toNat)

theorem code_size (v n : Nat → Int) : (codeS v n).size = ((n 0).toNat + 7) / 8 := by
  have h := inv_puts (f := fun j => bitOf (v 0) ((n 0).toNat - 1 - j)) inv_nil (fun _ => bitOf_01 _ _) (n 0).toNat
  rw [Nat.zero_add] at h
  exact (strOfNums_size _).trans h.1

theorem code_seq {v n : Nat → Int} (h : FitNums v n) (w : World) :
    Calls Try.prog 10 #[.agg #[.string ⟨#[]⟩, .int .i64 0], .int .i64 (v 0), .int .i64 (n 0)] w fun e w' => e = .returned (.tuple #[.agg #[.string (codeS v n), .int .i64 (n 0)], .bool true]) ∧ Below w.heap.size w w' := by
  obtain ⟨h1, h2, h3, h4⟩ := h 0
  have e : n 0 = ((n 0).toNat : Int) := by omega
  have ho : outB ⟨#[]⟩ ((0 : Nat) : Int) = true := outB_of_inv inv_nil allB_nil (by omega)
  have hm : May ⟨#[]⟩ ((0 : Nat) : Int) (v 0) ((n 0).toNat : Nat) := ⟨ho, by omega, by omega, h3, by rw [Int.toNat_natCast]; exact h4, by omega⟩
  have hk := implPutCode_yes ⟨#[]⟩ 0 (v 0) (n 0).toNat w hm
  rw [Nat.zero_add, ← e] at hk
  exact hk

theorem code_take {v n : Nat → Int} (h : FitNums v n) (k : Nat) (hk : k < (n 0).toNat) (w : World) :
    Calls Try.prog 9 #[.agg #[.string (codeS v n), .int .i64 k], .int .i64 1] w fun e w' => e = .returned (.tuple #[.int .i64 (bitOf (v 0) ((n 0).toNat - 1 - k)), .agg #[.string (codeS v n), .int .i64 ((k : Int) + 1)], .bool true]) ∧ Below w.heap.size w w' := by
  have hs := code_size v n
  have hn := h 0
  have hk1 := implTake_yes (codeS v n) k 1 w (by omega) (by omega) (by omega)
  rw [num_one, show bit (codeS v n) k = _ from code_bit (v 0) (n 0).toNat k hk] at hk1
  exact hk1

/-- Block k is a Bits of the text s at the bit c. -/
def BitsBox (w : World) (k : Nat) (s : ByteArray) (c : Int) : Prop := w.heap[k]? = some (.cells #[.string s, .int .i64 c] 33 (0, 0))
section
variable {w w' : World} {k : Nat} {s : ByteArray} {c : Int}
theorem BitsBox.c0 (h : BitsBox w k s c) : w.cell? ⟨k, 0, none⟩ = some (.string s) := cell_of_block h 0
theorem BitsBox.c1 (h : BitsBox w k s c) : w.cell? ⟨k, 1, none⟩ = some (.int .i64 c) := cell_of_block h 1
theorem BitsBox.f (h : BitsBox w k s c) (i : Nat) : w.frozen? ⟨k, i, none⟩ = false := unfrozen_of_block h i
theorem BitsBox.lt (h : BitsBox w k s c) : k < w.heap.size := by
  rcases Nat.lt_or_ge k w.heap.size with q | q
  · exact q
  · unfold BitsBox at h; rw [Array.getElem?_eq_none q] at h; cases h
theorem BitsBox.grown {b : Nat} (h : BitsBox w k s c) (hg : w.grownBy w' (some b)) (hne : k ≠ b) : BitsBox w' k s c := (hg.block k h.lt (by simpa using hne)).trans h
theorem BitsBox.below (h : BitsBox w k s c) (hg : Below w.heap.size w w') : BitsBox w' k s c := (hg.block k h.lt).trans h
theorem BitsBox.set0 (h : BitsBox w k s c) (t : ByteArray) : BitsBox (w.setCell ⟨k, 0, none⟩ (.string t)) k t c := by
  have := block_setCell (i := 0) h (.string t)
  simpa [BitsBox] using this
theorem BitsBox.set1 (h : BitsBox w k s c) (x : Int) : BitsBox (w.setCell ⟨k, 1, none⟩ (.int .i64 x)) k s x := by
  have := block_setCell (i := 1) h (.int .i64 x)
  simpa [BitsBox] using this
theorem BitsBox.other (h : BitsBox w k s c) (p : Addr) (v : Value) (hne : p.block ≠ k) : BitsBox (w.setCell p v) k s c := (Below.heap_setCell w p v k (Ne.symm hne)).trans h
end

set_option maxRecDepth 100000 in
set_option maxHeartbeats 3200000 in
theorem FnBits_at (a : Option Addr) (len cap : Nat) (w : World) (hK : CodeAt w w.heap.size a len) (hlen : len ≤ 1048576) :
    Calls Try.prog 3 #[.slice a len cap] w fun e w' => e = .returned (.bool true) ∧ Below w.heap.size w w' := by
  have HK : Hid (CodeAt w w.heap.size a len) := hK
  clear hK
  go_enter Try.func3, Try.ntmps3
  go_wp2_with fail
  refine (big_no a len cap _ (by omega)).mono ?_
  rintro e w1 ⟨rfl, rfl⟩
  go_wp2_with fail
  refine (draw_some a len cap w1.heap.size w1 HK.out hlen (Nat.le_refl _)).mono ?_
  rintro e w2 ⟨L, g1, g2, c1, c2, v, n, rfl, hL1, hL2, hF, hO1, hO2, hb2⟩
  have HF : Hid (FitNums v n) := hF
  have HO1 : Hid (Own 3 w2 w1.heap.size g1 (.slice (some ⟨g1, 0, none⟩) L c1) (ivals v L)) := hO1
  have HO2 : Hid (Own 3 w2 w1.heap.size g2 (.slice (some ⟨g2, 0, none⟩) L c2) (ivals n L)) := hO2
  have hg1 := hO1.lt
  have hg2 := hO2.lt
  clear hF hO1 hO2
  go_wp2_with fail
  have hW0 : OutBox (w2.alloc (.cells #[.string ⟨#[]⟩, .int .i64 0] 28)) w2.heap.size (seqS v n 0) (cnt n 0 : Nat) := heap_alloc_new w2 _
  have HW0 : Hid (OutBox (w2.alloc (.cells #[.string ⟨#[]⟩, .int .i64 0] 28)) w2.heap.size (seqS v n 0) (cnt n 0 : Nat)) := hW0
  clear hW0
  go_loopw [6] (fun i w' => ∃ j : Nat, j ≤ L ∧ i = .int .i64 j ∧ Hid (OutBox w' w2.heap.size (seqS v n j) (cnt n j : Nat)) ∧ Below w2.heap.size w2 w') (fun i _ => L - (intOf i).toNat)
  case atStart => exact ⟨0, Nat.zero_le _, rfl, HW0, bstart _ _⟩
  case round =>
    obtain ⟨j, hj, rfl, hW, hB⟩ := hrel
    by_cases hlt : j < L
    · have k0 := hW.out.c0
      have k1 := hW.out.c1
      have kf := hW.out.f
      have kl := hW.out.lt
      have v1 : wr.cell? ⟨g1, j, none⟩ = some (.int .i64 (v j)) := (hB.cell (p := ⟨g1, j, none⟩) hg1).trans (own_ival HO1.out j hlt)
      have n1 : wr.cell? ⟨g2, j, none⟩ = some (.int .i64 (n j)) := (hB.cell (p := ⟨g2, j, none⟩) hg2).trans (own_ival HO2.out j hlt)
      have hfj := HF.out j
      have l1 : g1 < wr.heap.size := by omega
      have l2 : g2 < wr.heap.size := by omega
      have b1 : (0 : Int) ≤ j := by omega
      have b2 : (j : Int) < L := by omega
      go_wp2_with fail
      go_cut [7, 8] from 31 to 69 (fun q ok wx => ok = .bool true ∧ ∃ p, q = .pointer (some ⟨p, 0, none⟩) ∧ w2.heap.size < p ∧ Hid (OutBox wx p (seqS v n (j + 1)) (cnt n (j + 1) : Nat)) ∧ Hid (OutBox wx w2.heap.size (seqS v n j) (cnt n j : Nat)) ∧ Below w2.heap.size w2 wx)
      case first =>
        have x0 := World.new_ne wr ⟨w2.heap.size, 0, none⟩ k0
        have x1 := World.new_ne wr ⟨w2.heap.size, 1, none⟩ k1
        have x2 := World.new_ne wr ⟨g1, j, none⟩ v1
        have x3 := World.new_ne wr ⟨g2, j, none⟩ n1
        go_region_held3 (fun w' => w'.cell? ⟨w2.heap.size, 0, none⟩ = some (.string (seqS v n j)) ∧ w'.cell? ⟨w2.heap.size, 1, none⟩ = some (.int .i64 (cnt n j : Nat)) ∧ w'.cell? ⟨g1, j, none⟩ = some (.int .i64 (v j)) ∧ w'.cell? ⟨g2, j, none⟩ = some (.int .i64 (n j))) (go_keep) (first | (go_at_call 7; refine (put_seq HF.out j (by omega) _).mono ?_; rintro e w3 ⟨rfl, hb3⟩; obtain ⟨q3, f3⟩ := bcell hb3; have z3 := hb3.size; have y0 : w3.cell? ⟨w2.heap.size, 0, none⟩ = some (.string (seqS v n j)) := (q3 _ _ (by first | omega | (simp; omega))).trans (by first | assumption | simp [*]); have y1 : w3.cell? ⟨w2.heap.size, 1, none⟩ = some (.int .i64 (cnt n j : Nat)) := (q3 _ _ (by first | omega | (simp; omega))).trans (by first | assumption | simp [*]); have y2 : w3.cell? ⟨g1, j, none⟩ = some (.int .i64 (v j)) := (q3 _ _ (by first | omega | (simp; omega))).trans (by first | assumption | simp [*]); have y3 : w3.cell? ⟨g2, j, none⟩ = some (.int .i64 (n j)) := (q3 _ _ (by first | omega | (simp; omega))).trans (by first | assumption | simp [*])))
        · go_wp2_with fail
          go_meet
          case rel =>
            have hBw : Below w2.heap.size w2 w3 := hB.drew.trans (hb3.mono (by show w2.heap.size ≤ wr.heap.size; omega))
            have hK3 : OutBox w3 w2.heap.size (seqS v n j) (cnt n j : Nat) := (hb3.block w2.heap.size (by show w2.heap.size < wr.heap.size; omega)).trans hW.out
            exact ⟨rfl, w3.heap.size, rfl, by have := hK3.lt; omega, heap_alloc_new w3 _, (Below.heap_alloc w3 _ _ hK3.lt).trans hK3, hBw.alloc (by have := hK3.lt; omega) _⟩
        · go_wp2_with fail
          go_meet
          case rel =>
            have hsz : (wr.alloc (.cells #[.string ⟨#[]⟩, .int .i64 0] 28)).drew.heap.size = wr.heap.size + 1 := by simp
            have hP3 : OutBox w3 wr.heap.size ⟨#[]⟩ 0 := (hb3.block wr.heap.size (by rw [hsz]; omega)).trans (heap_alloc_new wr _)
            have hK3 : OutBox w3 w2.heap.size (seqS v n j) (cnt n j : Nat) := (hb3.block w2.heap.size (by rw [hsz]; omega)).trans ((Below.heap_alloc wr _ _ kl).trans hW.out)
            have hBw : Below w2.heap.size w2 w3 := (hB.alloc (Nat.le_of_lt kl) (.cells #[.string ⟨#[]⟩, .int .i64 0] 28)).drew.trans (hb3.mono (by rw [hsz]; omega))
            exact ⟨rfl, wr.heap.size, rfl, kl, (hP3.set0 _).set1 _, (hK3.other _ _ (by simpa using x0)).other _ _ (by simpa using x0), (hBw.setCell (by simp; omega) _).setCell (by simp; omega) _⟩
      case rest =>
        obtain ⟨rfl, p, rfl, hp, hP, hKc, hBc⟩ := hcut
        have p0 := hP.out.c0
        have p1 := hP.out.c1
        have pf := hP.out.f
        have pl := hP.out.lt
        have m0 := hKc.out.c0
        have m1 := hKc.out.c1
        have mf := hKc.out.f
        have ml := hKc.out.lt
        have n2 : wc.cell? ⟨g2, j, none⟩ = some (.int .i64 (n j)) := (hBc.cell (p := ⟨g2, j, none⟩) hg2).trans (own_ival HO2.out j hlt)
        have hcb := cnt_le HF.out j
        have ew : IntKind.i64.wrap (((cnt n j : Nat) : Int) + n j) = ((cnt n j : Nat) : Int) + n j := by rw [IntKind.wrap_i64]; omega
        have ed : (((cnt n (j + 1) : Nat) : Int) != ((cnt n j : Nat) : Int) + n j) = false := by
          have : ((cnt n (j + 1) : Nat) : Int) = ((cnt n j : Nat) : Int) + n j := by rw [cnt_succ]; omega
          rw [this]
          simp
        have hgc : g2 < wc.heap.size := by omega
        have hpK : ¬ p = w2.heap.size := by omega
        have hKp : ¬ w2.heap.size = p := by omega
        clear k0 k1 kf kl v1 n1 l1 l2
        go_wp2_with fail
        go_region_held3 (fun w' => w'.cell? ⟨p, 0, none⟩ = some (.string (seqS v n (j + 1))) ∧ w'.cell? ⟨p, 1, none⟩ = some (.int .i64 (cnt n (j + 1) : Nat)) ∧ w'.cell? ⟨w2.heap.size, 1, none⟩ = some (.int .i64 (cnt n j : Nat)) ∧ w'.cell? ⟨g2, j, none⟩ = some (.int .i64 (n j))) (go_keep) (first | (go_at_call 8; refine (out_seq HF.out (j + 1) (by omega) _).mono ?_; rintro e w4 ⟨rfl, hb4⟩; obtain ⟨q4, f4⟩ := bcell hb4; have z4 := hb4.size; have r0 : w4.cell? ⟨p, 0, none⟩ = some (.string (seqS v n (j + 1))) := (q4 _ _ (by first | omega | (simp; omega))).trans (by first | assumption | simp [*]); have r1 : w4.cell? ⟨p, 1, none⟩ = some (.int .i64 (cnt n (j + 1) : Nat)) := (q4 _ _ (by first | omega | (simp; omega))).trans (by first | assumption | simp [*]); have r2 : w4.cell? ⟨w2.heap.size, 1, none⟩ = some (.int .i64 (cnt n j : Nat)) := (q4 _ _ (by first | omega | (simp; omega))).trans (by first | assumption | simp [*]); have r3 : w4.cell? ⟨g2, j, none⟩ = some (.int .i64 (n j)) := (q4 _ _ (by first | omega | (simp; omega))).trans (by first | assumption | simp [*])))
        have hK4 : OutBox w4 w2.heap.size (seqS v n j) (cnt n j : Nat) := (hb4.block w2.heap.size ml).trans hKc.out
        have s0 := hK4.c0
        have sf := hK4.f
        have hB4 : Below w2.heap.size w2 w4 := hBc.drew.trans (hb4.mono (by show w2.heap.size ≤ wc.heap.size; omega))
        have HE : Hid (OutBox ((w4.setCell ⟨w2.heap.size, 0, none⟩ (.string (seqS v n (j + 1)))).setCell ⟨w2.heap.size, 1, none⟩ (.int .i64 (cnt n (j + 1) : Nat))) w2.heap.size (seqS v n (j + 1)) (cnt n (j + 1) : Nat)) := (hK4.set0 _).set1 _
        clear hK4 q4 f4
        go_wp2_with fail
        go_roundw
        case rel => exact ⟨j + 1, by omega, by go_num, HE, (hB4.setCell (Nat.le_refl _) _).setCell (Nat.le_refl _) _⟩
        case measure => simp [intOf]; omega
    · obtain rfl : L = j := by omega
      obtain ⟨wL, rfl⟩ : ∃ wL : World, wL = wr := ⟨_, rfl⟩
      have k0 := hW.out.c0
      have k1 := hW.out.c1
      have kl := hW.out.lt
      go_wp2_with fail
      have HV0 : Hid (BitsBox (wL.alloc (.cells #[.string (seqS v n L), .int .i64 0] 33)) wL.heap.size (seqS v n L) (cnt n 0 : Nat)) := heap_alloc_new wL _
      clear k0 k1
      go_loopw [10] (fun i w' => ∃ j : Nat, j ≤ L ∧ i = .int .i64 j ∧ Hid (BitsBox w' wL.heap.size (seqS v n L) (cnt n j : Nat)) ∧ Below wL.heap.size wL w') (fun i _ => L - (intOf i).toNat)
      case atStart => exact ⟨0, Nat.zero_le _, rfl, HV0, bstart _ _⟩
      case round =>
        obtain ⟨j, hj, rfl, hV, hC⟩ := hrel
        by_cases hlt2 : j < L
        · have k0 := hV.out.c0
          have k1 := hV.out.c1
          have kf := hV.out.f
          have kb := hV.out.lt
          have hBj : Below w2.heap.size w2 wr := hB.trans (hC.mono (by omega))
          have v1 : wr.cell? ⟨g1, j, none⟩ = some (.int .i64 (v j)) := (hBj.cell (p := ⟨g1, j, none⟩) hg1).trans (own_ival HO1.out j hlt2)
          have n1 : wr.cell? ⟨g2, j, none⟩ = some (.int .i64 (n j)) := (hBj.cell (p := ⟨g2, j, none⟩) hg2).trans (own_ival HO2.out j hlt2)
          have l1 : g1 < wr.heap.size := by omega
          have l2 : g2 < wr.heap.size := by omega
          have b1 : (0 : Int) ≤ j := by omega
          have b2 : (j : Int) < L := by omega
          go_wp2_with fail
          go_cut [11, 12, 13] from 73 to 99 (fun x q ok wx => x = .int .i64 (v j) ∧ ok = .bool true ∧ ∃ p, q = .pointer (some ⟨p, 0, none⟩) ∧ wL.heap.size < p ∧ Hid (BitsBox wx p (seqS v n L) (cnt n (j + 1) : Nat)) ∧ Hid (BitsBox wx wL.heap.size (seqS v n L) (cnt n j : Nat)) ∧ Below wL.heap.size wL wx)
          case first =>
            have x0 := World.new_ne wr ⟨wL.heap.size, 0, none⟩ k0
            have x1 := World.new_ne wr ⟨wL.heap.size, 1, none⟩ k1
            have x3 := World.new_ne wr ⟨g2, j, none⟩ n1
            go_region_held3 (fun w' => w'.cell? ⟨wL.heap.size, 0, none⟩ = some (.string (seqS v n L)) ∧ w'.cell? ⟨wL.heap.size, 1, none⟩ = some (.int .i64 (cnt n j : Nat)) ∧ w'.cell? ⟨g2, j, none⟩ = some (.int .i64 (n j))) (go_keep) (first | (go_at_call 9; refine (take_seq HF.out L j (by omega) hlt2 _).mono ?_; rintro e w3 ⟨rfl, hb3⟩; obtain ⟨q3, f3⟩ := bcell hb3; have z3 := hb3.size; have y0 : w3.cell? ⟨wL.heap.size, 0, none⟩ = some (.string (seqS v n L)) := (q3 _ _ (by first | omega | (simp; omega))).trans (by first | assumption | simp [*]); have y1 : w3.cell? ⟨wL.heap.size, 1, none⟩ = some (.int .i64 (cnt n j : Nat)) := (q3 _ _ (by first | omega | (simp; omega))).trans (by first | assumption | simp [*]); have y3 : w3.cell? ⟨g2, j, none⟩ = some (.int .i64 (n j)) := (q3 _ _ (by first | omega | (simp; omega))).trans (by first | assumption | simp [*])))
            · go_wp2_with fail
              go_meet
              case rel =>
                have hBw : Below wL.heap.size wL w3 := hC.drew.trans (hb3.mono (by show wL.heap.size ≤ wr.heap.size; omega))
                have hK3 : BitsBox w3 wL.heap.size (seqS v n L) (cnt n j : Nat) := (hb3.block wL.heap.size (by show wL.heap.size < wr.heap.size; omega)).trans hV.out
                exact ⟨rfl, rfl, w3.heap.size, rfl, by have := hK3.lt; omega, heap_alloc_new w3 _, (Below.heap_alloc w3 _ _ hK3.lt).trans hK3, hBw.alloc (by have := hK3.lt; omega) _⟩
            · go_wp2_with fail
              go_meet
              case rel =>
                have hsz : (wr.alloc (.cells #[.string ⟨#[]⟩, .int .i64 0] 33)).drew.heap.size = wr.heap.size + 1 := by simp
                have hP3 : BitsBox w3 wr.heap.size ⟨#[]⟩ 0 := (hb3.block wr.heap.size (by rw [hsz]; omega)).trans (heap_alloc_new wr _)
                have hK3 : BitsBox w3 wL.heap.size (seqS v n L) (cnt n j : Nat) := (hb3.block wL.heap.size (by rw [hsz]; omega)).trans ((Below.heap_alloc wr _ _ kb).trans hV.out)
                have hBw : Below wL.heap.size wL w3 := (hC.alloc (Nat.le_of_lt kb) (.cells #[.string ⟨#[]⟩, .int .i64 0] 33)).drew.trans (hb3.mono (by rw [hsz]; omega))
                exact ⟨rfl, rfl, wr.heap.size, rfl, kb, (hP3.set0 _).set1 _, (hK3.other _ _ (by simpa using x0)).other _ _ (by simpa using x0), (hBw.setCell (by simp; omega) _).setCell (by simp; omega) _⟩
          case rest =>
            obtain ⟨rfl, rfl, p, rfl, hp, hP, hKc, hBc⟩ := hcut
            have p0 := hP.out.c0
            have p1 := hP.out.c1
            have s0 := hKc.out.c0
            have s1 := hKc.out.c1
            have sf := hKc.out.f
            have hBw : Below w2.heap.size w2 wc := hB.trans (hBc.mono (by omega))
            have v2 : wc.cell? ⟨g1, j, none⟩ = some (.int .i64 (v j)) := (hBw.cell (p := ⟨g1, j, none⟩) hg1).trans (own_ival HO1.out j hlt2)
            have HE : Hid (BitsBox ((wc.setCell ⟨wL.heap.size, 0, none⟩ (.string (seqS v n L))).setCell ⟨wL.heap.size, 1, none⟩ (.int .i64 (cnt n (j + 1) : Nat))) wL.heap.size (seqS v n L) (cnt n (j + 1) : Nat)) := (hKc.out.set0 _).set1 _
            clear k0 k1 kf kb v1 n1 l1 l2
            go_wp2_with fail
            go_roundw
            case rel => exact ⟨j + 1, by omega, by go_num, HE, (hBc.setCell (Nat.le_refl _) _).setCell (Nat.le_refl _) _⟩
            case measure => simp [intOf]; omega
        · obtain rfl : L = j := by omega
          obtain ⟨wM, rfl⟩ : ∃ wM : World, wM = wr := ⟨_, rfl⟩
          have hBM : Below w2.heap.size w2 wM := hB.trans (hC.mono (by omega))
          have v1 : wM.cell? ⟨g1, 0, none⟩ = some (.int .i64 (v 0)) := (hBM.cell (p := ⟨g1, 0, none⟩) hg1).trans (own_ival HO1.out 0 (by omega))
          have n1 : wM.cell? ⟨g2, 0, none⟩ = some (.int .i64 (n 0)) := (hBM.cell (p := ⟨g2, 0, none⟩) hg2).trans (own_ival HO2.out 0 (by omega))
          have hmL := hV.out.lt
          go_wp2_with fail
          refine (code_seq HF.out _).mono ?_
          rintro e w5 ⟨rfl, hb5⟩
          have z5 := hb5.size
          go_wp2_with fail
          obtain ⟨W3, hW3⟩ : ∃ W3, W3 = (w5.alloc (.cells #[.string (codeS v n), .int .i64 (n 0)] 28)).alloc (.cells #[.string (codeS v n), .int .i64 0] 33) := ⟨_, rfl⟩
          have hsz3 : W3.heap.size = w5.heap.size + 1 + 1 := by rw [hW3]; simp
          have HC0 : Hid (BitsBox W3 (w5.heap.size + 1) (codeS v n) ((0 : Nat) : Int)) := by
            show W3.heap[w5.heap.size + 1]? = _
            rw [hW3]
            show ((w5.heap.push _).push _)[w5.heap.size + 1]? = _
            rw [Array.getElem?_push, if_pos (by simp)]
            rfl
          have hB3 : Below wM.heap.size wM W3 := by rw [hW3]; exact (hb5.alloc hb5.size _).alloc (by simp; omega) _
          have hn0 := HF.out 0
          have HX0 : Hid (v 0 / p2 ((n 0).toNat - 0) = 0) := Int.ediv_eq_zero_of_lt hn0.2.2.1 hn0.2.2.2
          clear v1 n1
          go_loopw [17, 19] (fun y i w' => ∃ k : Nat, k ≤ (n 0).toNat ∧ i = .int .i64 k ∧ y = .int .i64 (v 0 / p2 ((n 0).toNat - k)) ∧ Hid (BitsBox w' (w5.heap.size + 1) (codeS v n) k) ∧ Below (w5.heap.size + 1) W3 w') (fun _ i _ => (n 0).toNat - (intOf i).toNat)
          case atStart => exact ⟨0, Nat.zero_le _, rfl, by rw [HX0.out], by rw [← hW3]; exact HC0, by rw [← hW3]; exact Below.refl _ _⟩
          case round =>
            obtain ⟨k, hk, rfl, rfl, hD, hE⟩ := hrel
            by_cases hlt3 : k < (n 0).toNat
            · have k0 := hD.out.c0
              have k1 := hD.out.c1
              have kf := hD.out.f
              have kd := hD.out.lt
              have d1 : (k : Int) < n 0 := by omega
              have hq := p2_pos ((n 0).toNat - k)
              have y0 := Int.ediv_nonneg hn0.2.2.1 (show 0 ≤ p2 ((n 0).toNat - k) by omega)
              have y1 := Int.ediv_le_self (p2 ((n 0).toNat - k)) hn0.2.2.1
              have y2 := p2_61 (n := (n 0).toNat) (by omega)
              have h01 := bitOf_01 (v 0) ((n 0).toNat - 1 - k)
              have HY : Hid (2 * (v 0 / p2 ((n 0).toNat - k)) + bitOf (v 0) ((n 0).toNat - 1 - k) = v 0 / p2 ((n 0).toNat - (k + 1))) := code_step (v 0) (n 0).toNat k hlt3
              go_wp2_with fail
              refine (code_take HF.out k hlt3 _).mono ?_
              rintro e w6 ⟨rfl, hb6⟩
              have hD6 : BitsBox w6 (w5.heap.size + 1) (codeS v n) k := hD.out.below hb6
              have s0 := hD6.c0
              have s1 := hD6.c1
              have sf := hD6.f
              have sl := hD6.lt
              have hE6 : Below (w5.heap.size + 1) W3 w6 := hE.trans (hb6.mono (by omega))
              have hD7 : BitsBox ((w6.setCell ⟨w5.heap.size + 1, 0, none⟩ (.string (codeS v n))).setCell ⟨w5.heap.size + 1, 1, none⟩ (.int .i64 ((k : Int) + 1))) (w5.heap.size + 1) (codeS v n) ((k + 1 : Nat) : Int) := (hD6.set0 _).set1 _
              have HD7 : Hid (BitsBox (((w6.setCell ⟨w5.heap.size + 1, 0, none⟩ (.string (codeS v n))).setCell ⟨w5.heap.size + 1, 1, none⟩ (.int .i64 ((k : Int) + 1))).alloc (.cells #[.string (codeS v n), .int .i64 ((k : Int) + 1)] 33)) (w5.heap.size + 1) (codeS v n) ((k + 1 : Nat) : Int)) := (Below.heap_alloc _ _ _ hD7.lt).trans hD7
              have hE7 : Below (w5.heap.size + 1) W3 (((w6.setCell ⟨w5.heap.size + 1, 0, none⟩ (.string (codeS v n))).setCell ⟨w5.heap.size + 1, 1, none⟩ (.int .i64 ((k : Int) + 1))).alloc (.cells #[.string (codeS v n), .int .i64 ((k : Int) + 1)] 33)) := ((hE6.setCell (Nat.le_refl _) _).setCell (Nat.le_refl _) _).alloc (by have := hD7.lt; omega) _
              clear hD6 hD7 k0 k1 kf
              go_wp2_with fail
              go_roundw
              case rel => exact ⟨k + 1, by omega, by go_num, by rw [HY.out], HD7, hE7⟩
              case measure => simp [intOf]; omega
            · obtain rfl : k = (n 0).toNat := by omega
              have d1 : ¬ ((n 0).toNat : Int) < n 0 := by omega
              have hE2 : Below wM.heap.size wM wr := hB3.trans (hE.mono (by omega))
              have f1 : wr.cell? ⟨g1, 0, none⟩ = some (.int .i64 (v 0)) := (hE2.cell (p := ⟨g1, 0, none⟩) (by show g1 < wM.heap.size; omega)).trans ((hBM.cell (p := ⟨g1, 0, none⟩) hg1).trans (own_ival HO1.out 0 (by omega)))
              have f2 : wr.cell? ⟨wL.heap.size, 1, none⟩ = some (.int .i64 (cnt n L : Nat)) := (hE2.cell (p := ⟨wL.heap.size, 1, none⟩) hmL).trans hV.out.c1
              have f3 : wr.cell? ⟨w2.heap.size, 1, none⟩ = some (.int .i64 (cnt n L : Nat)) := (hE2.cell (p := ⟨w2.heap.size, 1, none⟩) (by show w2.heap.size < wM.heap.size; omega)).trans ((hC.cell (p := ⟨w2.heap.size, 1, none⟩) kl).trans hW.out.c1)
              have hxx : v 0 / p2 ((n 0).toNat - (n 0).toNat) = v 0 := by rw [Nat.sub_self, p2_zero]; omega
              have hbb : Below w1.heap.size w1 wr := hb2.trans ((hBM.trans (hE2.mono (by omega))).mono hb2.size)
              rw [hxx]
              clear hxx
              go_wp2_with fail
              go_ret
              exact ⟨rfl, hbb⟩

theorem FnBits_walk (a : Option Addr) (len cap : Nat) (zs : List Int) (w : World) (hr : IsRow .u8 w a len cap zs) :
    Calls Try.prog 3 #[.slice a len cap] w fun e w' => e = .returned (.bool true) ∧ Below w.heap.size w w' := by
  obtain ⟨hK, hl, hm⟩ := codeAt_of_row hr
  unfold maxLen at hm
  by_cases h : len ≤ 1048576
  · exact FnBits_at a len cap w hK h
  · go_enter Try.func3, Try.ntmps3
    go_wp2_with fail
    refine (big_yes a len cap _ (by omega) (by omega)).mono ?_
    rintro e w1 ⟨rfl, rfl⟩
    go_wp2_with fail
    go_ret
    exact ⟨rfl, Below.refl _ _⟩

set_option maxRecDepth 100000 in
theorem FnBits_lifted (os : Os) (started : os.Started) (H : Type) (enc : TypeId × Value → H) :
    ReturnsInHanded {} Try.checked os 3 .any (Rows.fnBitsSpec.pre6 enc Try.prog Try.f3 Rows.fnBitsRow.domain false) (Rows.fnBitsSpec.post enc Try.prog Try.f3 false true false false) := by
  refine returnsInHanded_of_change (C := Try.checked) (by kernel_rfl) started (by kernel_rfl) Try.func3
    (ChangeSpec.witness6 (enc := enc) (C := Try.checked) false ⟨#[], #[.slice none 0 0], []⟩ 8 (by kernel_rfl) (by kernel_rfl) (by kernel_rfl) (by kernel_rfl)) ?_
  intro W base args ds gs before hval0 hW hcnd _
  have hval : ∀ (j : Nat) t v, Try.f3.params[j]? = some t → args[j]? = some v → Value.okWide Try.prog W .any base t v := hval0
  have hW' := hW
  obtain ⟨p, q, hA0, hV, rfl, hfz, hnd⟩ := hW
  have hA : DataW.TrodAll enc Try.prog W 0 (fun _ => true) true Try.f3.params.toList args.toList ds p := hA0
  rw [Try.params3] at hA hval
  obtain ⟨v0, vs0, d0, ds0, p0, q0, hargs, rfl, rfl, h0, r0⟩ := trodAll_cons hA
  obtain ⟨rfl, rfl, rfl⟩ := trodAll_nil r0
  obtain rfl : args = #[v0] := by cases args; simp_all
  obtain ⟨rfl, rfl⟩ := trodVars_none hV
  have k0 := h0
  have lt0 : ∀ x ∈ p0, x.block < W.heap.size := by obtain ⟨m, hm⟩ := k0; exact DataW.trod_lt m _ _ _ hm
  obtain ⟨a0, len0, cap0, rfl⟩ := okWide_slice Try.underlying22 (hval 0 22 v0 rfl rfl)
  obtain ⟨z0, f0⟩ : ∃ zs, IsRow .u8 W a0 len0 cap0 zs := by
    obtain ⟨fuel, hf⟩ := h0
    rcases open_ints Try.underlying22 Try.underlying5 (by kernel_rfl) hf with ⟨hcs, _⟩ | ⟨x, l, c, zs, hcs, _, hl, hm, hz, _, hcell, hwz⟩
    · simp [Value.cells] at hcs
      obtain ⟨rfl, rfl, rfl⟩ := hcs
      exact ⟨[], .inl ⟨rfl, rfl, rfl, rfl⟩⟩
    · simp [Value.cells] at hcs
      obtain ⟨rfl, rfl, rfl⟩ := hcs
      exact ⟨zs, .inr ⟨_, rfl, hl, hm, by simpa using hz, hcell, hwz⟩⟩
  clear hA0 hval0
  refine (FnBits_walk a0 len0 cap0 z0 W f0).mono fun e W' ⟨he, bel⟩ => ?_
  subst he
  exact ⟨_, rfl, _, _, _, [], _, [], hW', trodAll_mk1 (shut_bool Try.underlying4 _), (trodAll_cons_mk (Below.trod (of_laid) (by kernel_rfl) (of_decide_eq_true (by kernel_rfl)) k0 bel lt0) trodAll_mk0), rfl, bel.frame _, fun h => by cases h⟩

theorem FnBits_holds : Rows.FnBitsSaid :=
  OpenClaim.holds_of_wide 3 Try.f3 rfl rfl rfl rfl rfl rfl rfl ⟨rfl, rfl, rfl, rfl, rfl⟩ rfl rfl rfl rfl rfl (by kernel_rfl) Try.func3 (by kernel_rfl)
    (of_decide_eq_true (by kernel_rfl)) (by unfold Func.isWrapper; first | (rw [if_pos (by decide +kernel)]; kernel_rfl) | (rw [if_neg (by decide +kernel)]; exact ⟨rfl, rfl⟩))
    (fun os started H enc _ => FnBits_lifted os started H enc)

#print axioms FnBits_holds
end Go.Proofs.Ytbomnhpkehfdoaa
