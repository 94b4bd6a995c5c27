/-
  The walks of the program's parts of a block: a number as a part, a part put by the writer, all parts behind an Out.
  The two boxes that a function which writes a block makes first: the Out that it is handed, and its answer's.
  The walk of the program's StoredBlock.
  A list of numbers of the call's own, as a slice that was handed back.
-/
import Derived.Test.YtbcnlggkoidmmaaGreatDoorRows
import Derived.Test.YtbcnlggkoidmmaaGreatDoorQk01
import Derived.Test.YtbcnlggkoidmmaaGreatDoorQk04
import Derived.Test.YtbcnlggkoidmmaaGreatDoorQk28
import Derived.Test.YtbcnlggkoidmmaaGreatDoorQk05
import Derived.Test.YtbcnlggkoidmmaaGreatDoorQk07
import Derived.Test.YtbcnlggkoidmmaaGreatDoorQk11
import Derived.Test.YtbcnlggkoidmmaaGreatDoorQk31
import Derived.Test.YtbcnlggkoidmmaaGreatDoorQk12
import Derived.Test.YtbcnlggkoidmmaaGreatDoorQk13
import Derived.WalkKit
import Derived.ProofKit
import Derived.WalkLawsBesides
import Derived.RegionTactic
import Derived.BigQuiet
import Derived.Below
import Derived.Deep.LoopGhost
import Derived.Lib.SmallJoins
import Derived.Deep.RegionWith
import Derived.Deep.CutRange
import Derived.OwnWalk
import Derived.Maps.AppendAt
namespace Go.Proofs.YtbcnlggkoidmmaaGreatDoor
open Go.RowKit Go.Joins OutMath PutMath BlockMath PartMath

theorem lay_called2 {X w' : World} {g : Nat} {o : Obj} (hB : Below X.heap.size X w') (h : X.heap[g]? = some o) : w'.heap[g]? = some o := (hB.block g (block_lt h)).trans h
theorem heap_two' (w : World) (A B : Obj) : ((w.alloc A).alloc B).heap[w.heap.size]? = some A := by
  show ((w.heap.push A).push B)[w.heap.size]? = some A
  rw [Array.getElem?_push_lt (by rw [Array.size_push]; omega), Array.getElem_push_eq]
theorem heap_second' (w : World) (A B : Obj) : ((w.alloc A).alloc B).heap[w.heap.size + 1]? = some B := by
  show ((w.heap.push A).push B)[w.heap.size + 1]? = some B
  have e : w.heap.size + 1 = (w.heap.push A).size := by rw [Array.size_push]
  rw [e, Array.getElem?_push_size]

theorem head_value (k : Nat) (h : k ≤ 2) : wrap64 ((k : Int) * 2) = (k : Int) * 2 ∧ bits .or .i64 ((k : Int) * 2) 1 = (k : Int) * 2 + 1 := by
  obtain rfl | rfl | rfl : k = 0 ∨ k = 1 ∨ k = 2 := by omega
  all_goals exact ⟨by decide +kernel, by decide +kernel⟩

/-- A block's first part. -/
def headP (kind : Nat) (last : Bool) : Part := ((kind : Int) * 2 + (if last then 1 else 0), 3, false)
theorem headP_right {kind : Nat} (h : kind ≤ 2) (last : Bool) : Right (headP kind last) := by
  unfold headP Right
  cases last <;> simp <;> omega
theorem headP_bits {kind : Nat} (h : kind ≤ 2) (last : Bool) : bitsP (headP kind last) = headBits kind last := by
  obtain rfl | rfl | rfl : kind = 0 ∨ kind = 1 ∨ kind = 2 := by omega
  all_goals cases last <;> decide +kernel

set_option maxHeartbeats 400000 in
theorem headPart_any (kind : Nat) (last : Bool) (w : World) (hk : kind ≤ 2) :
    Calls Tryz.prog 31 #[.int .i64 (kind : Int), .bool last] w fun e w' => e = .returned (.agg #[.int .i64 (headP kind last).1, .int .i64 3, .bool false]) ∧ Below w.heap.size w w' := by
  obtain ⟨h1, h2⟩ := head_value kind hk
  cases last with
  | false =>
    go_enter Tryz.func31, Tryz.ntmps31
    go_wp2_with fail
    refine (numberPart_any _ _ _).mono ?_
    rintro e w1 ⟨rfl, hB⟩
    have h0 : w1.heap[w.heap.size]? = some (.cells #[.int .i64 0, .int .i64 0, .bool false] 60 (0, 0)) := (hB.block _ (by simp)).trans (heap_alloc_new w _)
    have c0 : w1.cell? ⟨w.heap.size, 0, none⟩ = some (.int .i64 0) := (cell_of_block h0 0).trans rfl
    have c1 : w1.cell? ⟨w.heap.size, 1, none⟩ = some (.int .i64 0) := (cell_of_block h0 1).trans rfl
    have c2 : w1.cell? ⟨w.heap.size, 2, none⟩ = some (.bool false) := (cell_of_block h0 2).trans rfl
    have cf : ∀ i, w1.frozen? ⟨w.heap.size, i, none⟩ = false := fun i => by simp [World.frozen?, h0]
    have cl := block_lt h0
    have HB : Hid (Below w.heap.size w w1) := bnext (bstart _ _) hB
    clear h0 hB
    go_wp2_with fail
    refine bodyPost_ret (v := .agg #[.int .i64 (headP kind false).1, .int .i64 3, .bool false]) ?_ rfl ⟨rfl, ?_⟩
    · simp [results, Tryz.results31, go_sem, c0, c1, c2, headP]
    · exact Below.setCell (p := ⟨_, 2, none⟩) (two_below HB.out (Nat.le_refl _) _ _) (Nat.le_refl _) _
  | true =>
    go_enter Tryz.func31, Tryz.ntmps31
    go_wp2_with fail
    refine (numberPart_any _ _ _).mono ?_
    rintro e w1 ⟨rfl, hB⟩
    have h0 : w1.heap[w.heap.size]? = some (.cells #[.int .i64 0, .int .i64 0, .bool false] 60 (0, 0)) := (hB.block _ (by simp)).trans (heap_alloc_new w _)
    have c0 : w1.cell? ⟨w.heap.size, 0, none⟩ = some (.int .i64 0) := (cell_of_block h0 0).trans rfl
    have c1 : w1.cell? ⟨w.heap.size, 1, none⟩ = some (.int .i64 0) := (cell_of_block h0 1).trans rfl
    have c2 : w1.cell? ⟨w.heap.size, 2, none⟩ = some (.bool false) := (cell_of_block h0 2).trans rfl
    have cf : ∀ i, w1.frozen? ⟨w.heap.size, i, none⟩ = false := fun i => by simp [World.frozen?, h0]
    have cl := block_lt h0
    have HB : Hid (Below w.heap.size w w1) := bnext (bstart _ _) hB
    clear h0 hB
    go_wp2_with fail
    refine bodyPost_ret (v := .agg #[.int .i64 (headP kind true).1, .int .i64 3, .bool false]) ?_ rfl ⟨rfl, ?_⟩
    · simp [results, Tryz.results31, go_sem, c0, c1, c2, headP]
    · exact Below.setCell (p := ⟨_, 2, none⟩) (two_below HB.out (Nat.le_refl _) _ _) (Nat.le_refl _) _

theorem wr_called {w w' : World} {base b g L cap : Nat} {xs : List Int} {c : Int} (h : Wr w base b g L cap xs c) (hb : Below w.heap.size w w') : Wr w' base b g L cap xs c :=
  ⟨(hb.block _ (block_lt h.1)).trans h.1, h.2.1.keep (hb.block _ h.2.1.lt), h.2.2⟩

set_option maxHeartbeats 800000 in
theorem putPart_any (p : Part) (b g L cap : Nat) (xs : List Int) (c : Nat) (base : Nat) (w : World) (hW : Wr w base b g L cap xs c) (hI : Inv xs c) (hR : Right p) (hc : c + p.2.1 ≤ 96000) (hbw : base ≤ w.heap.size) :
    Calls Tryz.prog 62 #[.pointer (some ⟨b, 0, none⟩), .agg #[.int .i64 p.1, .int .i64 (p.2.1 : Int), .bool p.2.2]] w fun e w' => ∃ g' L' cap', e = .returned (.tuple #[]) ∧ Wr w' base b g' L' cap' (putB xs c (bitsP p)) ((c + p.2.1 : Nat) : Int) ∧ Below base w w' := by
  obtain ⟨x, n, high⟩ := p
  obtain ⟨hx0, hx1, hn⟩ := hR
  simp only [] at hx0 hx1 hn hc
  have HW : Hid (∀ o, Wr (w.alloc o) base b g L cap xs c) := fun o => wr_called hW (bstart _ _)
  have HI := hid_of hI
  clear hW hI
  cases high with
  | false =>
    have e1 : puts xs c (fun j => bitOf x j) n = putB xs c (bitsP (x, n, false)) := by
      unfold putB
      rw [bitsP_length]
      exact puts_congr n fun i hi => (pieceBits_getD x n false hi).symm
    rw [← e1]
    have HE := hid_of e1
    clear e1
    go_enter Tryz.func62, Tryz.ntmps62
    go_wp2_with fail
    refine (putNumber_any x n b g L cap xs c base _ (HW.out _) HI.out hx0 hx1 hn hc).mono ?_
    rintro e w1 ⟨g', L', cap', rfl, h1, h2⟩
    have HH := hid_of (And.intro h1 h2)
    clear h1 h2
    go_wp2_with fail
    go_end0
    exact ⟨g', L', cap', rfl, HH.out.1, ((Below.refl _ _).alloc hbw _).trans HH.out.2⟩
  | true =>
    have e1 : puts xs c (fun j => bitOf x (n - 1 - j)) n = putB xs c (bitsP (x, n, true)) := by
      unfold putB
      rw [bitsP_length]
      exact puts_congr n fun i hi => (pieceBits_getD x n true hi).symm
    rw [← e1]
    have HE := hid_of e1
    clear e1
    go_enter Tryz.func62, Tryz.ntmps62
    go_wp2_with fail
    refine (putCode_any x n b g L cap xs c base _ (HW.out _) HI.out hx0 hx1 hn hc).mono ?_
    rintro e w1 ⟨g', L', cap', rfl, h1, h2⟩
    have HH := hid_of (And.intro h1 h2)
    clear h1 h2
    go_wp2_with fail
    refine bodyPost_ret (v := .tuple #[]) (by simp [results, Tryz.results62, go_sem]) rfl ?_
    exact ⟨g', L', cap', rfl, HH.out.1, ((Below.refl _ _).alloc hbw _).trans HH.out.2⟩

/-- Under way: so many parts are put. -/
def WpSt (w1 wr : World) (base b : Nat) (s : ByteArray) (k : Nat) (L : List Part) (j : Nat) : Prop := ∃ g L' cap, Wr wr base b g L' cap (putB (numsOf s) k (partBits (L.take j))) ((k + (partBits (L.take j)).length : Nat) : Int) ∧ Below base w1 wr ∧ Inv (putB (numsOf s) k (partBits (L.take j))) (k + (partBits (L.take j)).length) ∧ k + (partBits (L.take j)).length ≤ 96000

set_option maxHeartbeats 1600000 in
theorem withParts_yes (s : ByteArray) (k : Nat) (a : Option Addr) (cap : Nat) (L : List Part) (w : World) (hC : PCame w a L) (hR : ∀ p ∈ L, Right p) (hL : L.length ≤ 1000000) (hs : outB s k = true) :
    Calls Tryz.prog 33 #[.agg #[.string s, .int .i64 (k : Int)], .slice a L.length cap] w fun e w' => e = .returned (blkAns (bitsOut (s, k) (partBits L))) ∧ Below w.heap.size w w' := by
  obtain ⟨q1, q2, q3, q4⟩ := fits_of_outB s k hs
  have hO := fun w => implOut_any s k w (by unfold maxLen; omega) (by omega) (by omega)
  rw [hs] at hO
  have HC := hid_of hC
  have HR := hid_of hR
  have HS := hid_of hs
  have HI : Hid (Inv (numsOf s) k) := bytes_inv s k hs
  clear hC hR hs q4
  go_enter Tryz.func33, Tryz.ntmps33
  go_wp2_with fail
  refine (hO _).mono ?_
  rintro e w1 ⟨rfl, hB1⟩
  have r1 : w1.heap[w.heap.size]? = some (.cells #[.string s, .int .i64 (k : Int)] 31 (0, 0)) := lay_called2 hB1 (heap_two' w _ _)
  have r2 : w1.heap[w.heap.size + 1]? = some (.cells #[.string ⟨#[]⟩, .int .i64 0] 31 (0, 0)) := lay_called2 hB1 (heap_second' w _ _)
  have c0 : w1.cell? ⟨w.heap.size, 0, none⟩ = some (.string s) := (cell_of_block r1 0).trans rfl
  have c1 : w1.cell? ⟨w.heap.size, 1, none⟩ = some (.int .i64 (k : Int)) := (cell_of_block r1 1).trans rfl
  have HB1 : Hid (Below w.heap.size w w1) := bnext (bal (bstart _ _) _) hB1
  have HR2 := hid_of r2
  clear hO r1 r2 hB1
  go_wp2_with fail
  refine (newWriter s k _ q1).mono ?_
  rintro e w2 ⟨b, g0, cap0, rfl, hW2, hB2⟩
  have hsz := hB2.size
  have HW2 : Hid (WpSt w1 w2 w1.heap.size b s k L 0) := ⟨g0, s.size, cap0, hW2, hB2, by simpa [partBits, putB_nil] using HI.out, by simp [partBits]; omega⟩
  clear hW2 hB2 c0 c1
  have HX : Hid (∀ W, Below w1.heap.size w1 W → Below w.heap.size w W ∧ PCame W a L ∧ W.heap[w.heap.size + 1]? = some (.cells #[.string ⟨#[]⟩, .int .i64 0] 31 (0, 0))) := fun W h => ⟨bnext HB1.out h, HC.out.called (bnext HB1.out h), lay_called2 h HR2.out⟩
  have hwl : w.heap.size + 1 < w1.heap.size := block_lt HR2.out
  clear HB1 HC HR2
  go_wp2_with fail
  generalize w1.heap.size = B at *
  go_loopg [17] (L.length + 1) (fun gk i w' => ∃ (j : Nat), j ≤ L.length ∧ L.length - j ≤ gk ∧ i = .int .i64 j ∧ Hid (WpSt w1 w' B b s k L j))
  case atStart => exact ⟨0, Nat.zero_le _, by omega, rfl, HW2⟩
  case round =>
    obtain ⟨j, hj, hgk, rfl, hS⟩ := hrel
    obtain ⟨g, L', cp, hWr, hBw, hInv, hle⟩ := hS.out
    by_cases hlt : j < L.length
    · have c1 := hWr.c1
      have bl := hWr.lt
      have dl : decide ((j : Int) < (L.length : Int)) = true := decide_eq_true (by omega)
      rcases (HX.out wr hBw).2.1 with q | ⟨pg, off, rfl, hpg, hc⟩
      · omega
      obtain ⟨f0, f1, f2⟩ := hc j hlt
      have hp : Right (L.getD j (0, 0, false)) := HR.out _ (by rw [List.getD_eq_getElem?_getD, List.getElem?_eq_getElem hlt]; exact List.getElem_mem hlt)
      have htk := partBits_take hlt
      have htl := partBits_take_le L (j + 1)
      obtain ⟨⟨x, n, hi⟩, hr⟩ : ∃ r, r = L.getD j (0, 0, false) := ⟨_, rfl⟩
      rw [← hr] at f0 f1 f2 hp htk
      rw [htk, List.length_append, bitsP_length] at htl
      simp only [] at f0 f1 f2 htl
      have hn : n ≤ 24 := hp.2.2
      have HTK := hid_of htk
      have HP := hid_of hp
      have r2 := (HX.out wr hBw).2.2
      have z0 : wr.cell? ⟨w.heap.size + 1, 0, none⟩ = some (.string ⟨#[]⟩) := (cell_of_block r2 0).trans rfl
      have z1 : wr.cell? ⟨w.heap.size + 1, 1, none⟩ = some (.int .i64 0) := (cell_of_block r2 1).trans rfl
      have zf : ∀ i, wr.frozen? ⟨w.heap.size + 1, i, none⟩ = false := fun i => by simp [World.frozen?, r2]
      have zl := block_lt r2
      obtain ⟨q, hq⟩ : ∃ q, q = k + (partBits (L.take j)).length := ⟨_, rfl⟩
      rw [← hq] at c1 hWr hInv hle
      obtain ⟨ys, hys⟩ : ∃ ys, ys = putB (numsOf s) k (partBits (L.take j)) := ⟨_, rfl⟩
      rw [← hys] at hWr hInv
      have HQ := hid_of hq
      have HY := hid_of hys
      have HTL : Hid (k + ((partBits (L.take j)).length + n) ≤ k + (partBits L).length) := by show _ ≤ _; omega
      have HWr := hid_of hWr
      have HBw := hid_of hBw
      have HInv := hid_of hInv
      have hbs : B ≤ wr.heap.size := by have := hWr.2.2.2; omega
      clear hc hr hp htk htl hq hys hWr hBw hInv hS r2
      by_cases hroom : q + n ≤ 96000
      · have dr : decide ((96000 : Int) < (q : Int) + (n : Int)) = false := decide_eq_false (by omega)
        go_wp2_with fail
        go_region
        all_goals
          go_wp2_with fail
          refine (putPart_any (x, n, hi) b g L' cp ys q B _ (wr_called HWr.out (bstart wr _).drew) HInv.out HP.out hroom (by show B ≤ (wr.alloc _).heap.size; simp; omega)).mono ?_
          rintro e w3 ⟨g', L2, cap', rfl, hW3, hB3⟩
          have HN : Hid (WpSt w1 w3 B b s k L (j + 1)) := by
            have e1 : putB (numsOf s) k (partBits (L.take (j + 1))) = putB ys q (bitsP (x, n, hi)) := by rw [HTK.out, putB_append, ← HY.out, ← HQ.out]
            have e2 : k + (partBits (L.take (j + 1))).length = q + n := by rw [HTK.out, List.length_append, bitsP_length, HQ.out]; simp only []; omega
            refine ⟨g', L2, cap', ?_, HBw.out.trans (((Below.refl _ _).alloc hbs _).drew.trans hB3), ?_, ?_⟩
            · rw [e1, e2]; exact hW3
            · rw [e1, e2]
              have := putB_inv HInv.out (pieceBits_01 x n hi)
              rw [pieceBits_length] at this
              exact this
            · omega
          clear hW3 hB3
          go_wp2_with fail
          go_roundg (L.length - (j + 1))
          case measure => omega
          case rel => exact ⟨j + 1, by omega, Nat.le_refl _, by go_num, HN⟩
      · have dr : decide ((96000 : Int) < (q : Int) + (n : Int)) = true := decide_eq_true (by omega)
        have HN : Hid (bitsOut (s, k) (partBits L) = none) := bitsOut_none (fun h => hroom (by have h1 := h.2; have h2 := HTL.out; have h3 := HQ.out; omega))
        have HBB : Hid (Below w.heap.size w wr) := (HX.out wr HBw.out).1
        go_wp2_with fail
        go_region
        all_goals
          go_wp2_with fail
          refine bodyPost_ret (v := .tuple #[.agg #[.string ⟨#[]⟩, .int .i64 0], .bool false]) ?_ rfl ⟨by rw [HN.out]; rfl, ?_⟩
          · have zz : ∀ (o : Obj) (i : Nat), (((wr.setCell ⟨w.heap.size + 1, 0, none⟩ (.string ⟨#[]⟩)).setCell ⟨w.heap.size + 1, 1, none⟩ (.int .i64 0)).alloc o).cell? ⟨w.heap.size + 1, i, none⟩ = ((wr.setCell ⟨w.heap.size + 1, 0, none⟩ (.string ⟨#[]⟩)).setCell ⟨w.heap.size + 1, 1, none⟩ (.int .i64 0)).cell? ⟨w.heap.size + 1, i, none⟩ := fun o i => grow_cell o (by simpa using zl) i
            simp [results, Tryz.results33, go_sem, zz, z0, z1]
          · exact (bal (two_below HBB.out (Nat.le_succ _) _ _) _).drew
    · obtain rfl : L.length = j := by omega
      have dl : decide ((L.length : Int) < (L.length : Int)) = false := decide_eq_false (by omega)
      rw [List.take_length] at hWr hle
      have HA : Hid (bitsOut (s, k) (partBits L) = some (strOfNums (putB (numsOf s) k (partBits L)), k + (partBits L).length)) := bitsOut_some HS.out hle
      obtain ⟨q, hq⟩ : ∃ q, q = k + (partBits L).length := ⟨_, rfl⟩
      obtain ⟨ys, hys⟩ : ∃ ys, ys = putB (numsOf s) k (partBits L) := ⟨_, rfl⟩
      rw [← hq, ← hys] at HA hWr
      have HWr := hid_of hWr
      have HBw := hid_of hBw
      clear hq hys hWr hle hInv hS hBw
      go_wp2_with fail
      refine (writerOut b g L' cp ys _ B _ HWr.out).mono ?_
      rintro e w3 ⟨rfl, hB3⟩
      have r2 := lay_called2 hB3 (HX.out wr HBw.out).2.2
      have HBB : Hid (Below w.heap.size w w3) := bnext (HX.out wr HBw.out).1 hB3
      have z0 : w3.cell? ⟨w.heap.size + 1, 0, none⟩ = some (.string ⟨#[]⟩) := (cell_of_block r2 0).trans rfl
      have z1 : w3.cell? ⟨w.heap.size + 1, 1, none⟩ = some (.int .i64 0) := (cell_of_block r2 1).trans rfl
      have zf : ∀ i, w3.frozen? ⟨w.heap.size + 1, i, none⟩ = false := fun i => by simp [World.frozen?, r2]
      have zl := block_lt r2
      clear r2 hB3
      go_wp2_with fail
      refine bodyPost_ret (v := .tuple #[.agg #[.string (strOfNums ys), .int .i64 (q : Int)], .bool true]) ?_ rfl ⟨by rw [HA.out]; rfl, ?_⟩
      · simp [results, Tryz.results33, go_sem, z0, z1]
      · exact two_below HBB.out (Nat.le_succ _) _ _

set_option maxHeartbeats 400000 in
theorem withParts_no (s : ByteArray) (c : Int) (a : Option Addr) (cap n : Nat) (w : World) (hs : s.size ≤ maxLen) (hc1 : -9223372036854775808 ≤ c) (hc2 : c ≤ 9223372036854775807) (h : outB s c = false) :
    Calls Tryz.prog 33 #[.agg #[.string s, .int .i64 c], .slice a n cap] w fun e w' => e = .returned (blkAns none) ∧ Below w.heap.size w w' := by
  have hO := fun w => implOut_any s c w hs hc1 hc2
  rw [h] at hO
  go_enter Tryz.func33, Tryz.ntmps33
  go_wp2_with fail
  refine (hO _).mono ?_
  rintro e w1 ⟨rfl, hB1⟩
  have r2 : w1.heap[w.heap.size + 1]? = some (.cells #[.string ⟨#[]⟩, .int .i64 0] 31 (0, 0)) := lay_called2 hB1 (heap_second' w _ _)
  have HBB : Hid (Below w.heap.size w w1) := bnext (bal (bstart _ _) _) hB1
  have z0 : w1.cell? ⟨w.heap.size + 1, 0, none⟩ = some (.string ⟨#[]⟩) := (cell_of_block r2 0).trans rfl
  have z1 : w1.cell? ⟨w.heap.size + 1, 1, none⟩ = some (.int .i64 0) := (cell_of_block r2 1).trans rfl
  have zf : ∀ i, w1.frozen? ⟨w.heap.size + 1, i, none⟩ = false := fun i => by simp [World.frozen?, r2]
  have zl := block_lt r2
  clear r2 hB1 hO
  go_wp2_with fail
  refine bodyPost_ret (v := .tuple #[.agg #[.string ⟨#[]⟩, .int .i64 0], .bool false]) ?_ rfl ⟨rfl, ?_⟩
  · simp [results, Tryz.results33, go_sem, z0, z1]
  · exact two_below HBB.out (Nat.le_succ _) _ _

/-- All parts behind an Out. -/
theorem withParts_any (s : ByteArray) (c : Int) (a : Option Addr) (cap : Nat) (L : List Part) (w : World) (hC : PCame w a L) (hR : ∀ p ∈ L, Right p) (hL : L.length ≤ 1000000) (hs : s.size ≤ maxLen) (hc1 : -9223372036854775808 ≤ c) (hc2 : c ≤ 9223372036854775807) :
    Calls Tryz.prog 33 #[.agg #[.string s, .int .i64 c], .slice a L.length cap] w fun e w' => e = .returned (blkAns ((outSt s c).bind fun o => bitsOut o (partBits L))) ∧ Below w.heap.size w w' := by
  cases h : outB s c with
  | false =>
    rw [show outSt s c = none from if_neg (by rw [h]; decide)]
    exact withParts_no s c a cap _ w hs hc1 hc2 h
  | true =>
    have hf := fits_of_outB s c h
    obtain ⟨k, rfl⟩ := Int.eq_ofNat_of_zero_le hf.2.1
    rw [show outSt s k = some (s, k) from if_pos h]
    exact withParts_yes s k a cap L w hC hR hL h
end Go.Proofs.YtbcnlggkoidmmaaGreatDoor

namespace Go.Proofs.YtbcnlggkoidmmaaGreatDoor
open Go.RowKit Go.Joins

/-- The boxes of the call. -/
def SBx (w X : World) (s : ByteArray) (c : Int) : Prop := Below w.heap.size w X ∧ X.heap[w.heap.size]? = some (.cells #[.string s, .int .i64 c] 31 (0, 0)) ∧ X.heap[w.heap.size + 1]? = some (.cells #[.string ⟨#[]⟩, .int .i64 0] 31 (0, 0))
theorem SBx.start (w : World) (s : ByteArray) (c : Int) : SBx w ((w.alloc (.cells #[.string s, .int .i64 c] 31)).alloc (.cells #[.string ⟨#[]⟩, .int .i64 0] 31)) s c := ⟨bal (bstart _ _) _, heap_two' w _ _, heap_second' w _ _⟩
theorem SBx.called {w X Y : World} {s : ByteArray} {c : Int} (h : SBx w X s c) (hb : Below X.heap.size X Y) : SBx w Y s c := ⟨bnext h.1 hb, lay_called2 hb h.2.1, lay_called2 hb h.2.2⟩
theorem SBx.drew {w X : World} {s : ByteArray} {c : Int} (h : SBx w X s c) : SBx w X.drew s c := ⟨h.1.drew, h.2⟩
theorem SBx.grown {w X Y : World} {s : ByteArray} {c : Int} {g : Nat} (h : SBx w X s c) (hg : X.grownBy Y (some g)) (hl : w.heap.size + 2 ≤ g) : SBx w Y s c := by
  obtain ⟨k1, k2, k3⟩ := h
  have h1 := k1.size
  refine ⟨k1.grown hg h1 (fun q hq => by obtain rfl : g = q := Option.some.inj hq; exact Nat.le_trans (by omega) hl), ?_, ?_⟩
  · exact (hg.block _ (block_lt k2) (fun e => by have := Option.some.inj e; omega)).trans k2
  · exact (hg.block _ (block_lt k3) (fun e => by have := Option.some.inj e; omega)).trans k3
theorem SBx.cells {w X : World} {s : ByteArray} {c : Int} (h : SBx w X s c) : X.cell? ⟨w.heap.size, 0, none⟩ = some (.string s) ∧ X.cell? ⟨w.heap.size, 1, none⟩ = some (.int .i64 c) ∧ w.heap.size < X.heap.size := ⟨(cell_of_block h.2.1 0).trans rfl, (cell_of_block h.2.1 1).trans rfl, block_lt h.2.1⟩
theorem SBx.res {w X : World} {s : ByteArray} {c : Int} (h : SBx w X s c) : X.cell? ⟨w.heap.size + 1, 0, none⟩ = some (.string ⟨#[]⟩) ∧ X.cell? ⟨w.heap.size + 1, 1, none⟩ = some (.int .i64 0) ∧ (∀ i, X.frozen? ⟨w.heap.size + 1, i, none⟩ = false) ∧ w.heap.size + 1 < X.heap.size := ⟨(cell_of_block h.2.2 0).trans rfl, (cell_of_block h.2.2 1).trans rfl, fun i => by simp [World.frozen?, h.2.2], block_lt h.2.2⟩
end Go.Proofs.YtbcnlggkoidmmaaGreatDoor

namespace Go.Proofs.YtbcnlggkoidmmaaGreatDoor
open Go.RowKit Go.Joins OutMath PutMath BlockMath PartMath

theorem i64_and7 (x : Int) : bits .and .i64 x 7 = x % 8 := by
  have h2 : (BitVec.ofInt 64 (7 : Int)).toNat = 7 := by decide +kernel
  have h1 : (BitVec.ofInt 64 x).toNat = (x % 18446744073709551616).toNat := by
    rw [BitVec.toNat_ofInt]
    rfl
  show IntKind.i64.wrap ((BitVec.ofInt 64 x &&& BitVec.ofInt 64 (7 : Int)).toNat : Int) = _
  rw [BitVec.toNat_and, h1, h2, IntKind.wrap_i64]
  have h3 := Nat.and_two_pow_sub_one_eq_mod (x % 18446744073709551616).toNat 3
  rw [show 2 ^ 3 - 1 = 7 from rfl, show 2 ^ 3 = 8 from rfl] at h3
  rw [h3]
  omega

theorem info_part : (Tryz.prog.info? 60).map (fun i => (i.zero, i.size, i.bytes)) = some (some (.agg #[.int .i64 0, .int .i64 0, .bool false]), 3, 24) := by kernel_rfl

/-- The parts of a block of type 0. -/
def storedHead (c : Int) (t : ByteArray) (last : Bool) : List Part := [headP 0 last, (0, ((-(c + 3)) % 8).toNat, false), ((t.size : Int), 16, false), (65535 - (t.size : Int), 16, false)]
def byteParts (l : List Int) : List Part := l.map fun y => (y, 8, false)
theorem byteParts_bits : ∀ l : List Int, partBits (byteParts l) = byteBits l
  | [] => rfl
  | y :: l => by
    show bitsP (y, 8, false) ++ partBits (byteParts l) = pieceBits y 8 false ++ byteBits l
    rw [byteParts_bits l]
    rfl
theorem zero_bits (n : Nat) : bitsP (0, n, false) = List.replicate n 0 := by
  refine List.eq_replicate_iff.mpr ⟨bitsP_length _, fun b hb => ?_⟩
  obtain ⟨k, _, rfl⟩ := List.mem_map.mp hb
  simp [bitOf]
theorem stored_bits (k : Nat) (t : ByteArray) (last : Bool) : partBits (storedHead k t last ++ byteParts (numsOf t)) = headBits 0 last ++ storedBits (k + 3) t := by
  rw [partBits_app, byteParts_bits]
  show (bitsP (headP 0 last) ++ (bitsP (0, _, false) ++ (bitsP ((t.size : Int), 16, false) ++ (bitsP (65535 - (t.size : Int), 16, false) ++ [])))) ++ _ = _
  rw [headP_bits (by omega), zero_bits]
  unfold storedBits fillBits
  rw [show ((-((k : Int) + 3)) % 8).toNat = (8 - (k + 3) % 8) % 8 by omega]
  simp only [List.append_assoc, List.append_nil]
  rfl
theorem stored_right (c : Int) (t : ByteArray) (last : Bool) (ht : t.size ≤ 2600) : ∀ p ∈ storedHead c t last ++ byteParts (numsOf t), Right p := by
  intro p hp
  rcases List.mem_append.mp hp with hp | hp
  · unfold storedHead at hp
    simp only [List.mem_cons, List.not_mem_nil, or_false] at hp
    rcases hp with rfl | rfl | rfl | rfl
    · exact headP_right (by omega) last
    · refine ⟨by simp, by simp, ?_⟩
      show ((-(c + 3)) % 8).toNat ≤ 24
      omega
    · refine ⟨?_, ?_, ?_⟩ <;> simp only [] <;> omega
    · refine ⟨?_, ?_, ?_⟩ <;> simp only [] <;> omega
  · obtain ⟨y, hy, rfl⟩ := List.mem_map.mp hp
    obtain ⟨b, _, rfl⟩ := List.mem_map.mp hy
    have := UInt8.toNat_lt b
    refine ⟨?_, ?_, ?_⟩ <;> simp only [] <;> omega

theorem bytes_take {t : ByteArray} {j : Nat} (h : j < t.size) : byteParts ((numsOf t).take (j + 1)) = byteParts ((numsOf t).take j) ++ [(((t[j]'h).toNat : Int), 8, false)] := by
  have h1 : (numsOf t)[j]? = some ((t[j]'h).toNat : Int) := by
    unfold numsOf
    rw [List.getElem?_map, Array.getElem?_toList, Array.getElem?_eq_getElem (show j < t.data.size from h)]
    rfl
  unfold byteParts
  rw [List.take_add_one, h1, List.map_append]
  rfl
theorem own_slice {w : World} {e : TypeId} {S m n : Nat} {v : Value} {L : List Value} (h : w.ownsRow S e m v n L) (hn : 0 < n) : ∃ g cap, v = .slice (some ⟨g, 0, none⟩) n cap := by
  rcases h.2 with ⟨_, h0⟩ | ⟨g, cap, cur, rfl, _⟩
  · omega
  · exact ⟨g, cap, rfl⟩
/-- Under way: the list of parts so far. -/
def StW (w X : World) (s : ByteArray) (c : Int) (L : List Part) (v : Value) : Prop := SBx w X s c ∧ X.ownsRow (w.heap.size + 2) 60 3 v L.length (pcells L)

set_option maxRecDepth 100000 in
set_option maxHeartbeats 3200000 in
theorem stored_good (s : ByteArray) (c : Int) (t : ByteArray) (last : Bool) (w : World) (hs : s.size ≤ 1048576) (hc1 : -9223372036854775808 ≤ c) (hc2 : c ≤ 9223372036854775807) (ht : t.size ≤ 2600) :
    Calls Tryz.prog 10 #[.agg #[.string s, .int .i64 c], .string t, .bool last] w fun e w' => e = .returned (blkAns ((outSt s c).bind fun o => bitsOut o (partBits (storedHead c t last ++ byteParts (numsOf t))))) ∧ Below w.heap.size w w' := by
  have dt : decide ((2600 : Int) < (t.size : Int)) = false := decide_eq_false (by omega)
  have dt' : decide (2600 < t.size) = false := decide_eq_false (by omega)
  have HX := hid_of (SBx.start w s c)
  go_enter Tryz.func10, Tryz.ntmps10
  go_wp2_with fail
  generalize (w.alloc _).alloc _ = X at HX ⊢
  go_cut [8] from 14 to 29 (fun v wx => Hid (SBx w wx s c) ∧ ∃ g, v = .slice (some ⟨g, 0, none⟩) 4 4 ∧ Hid (wx.ownsRow (w.heap.size + 2) 60 3 v 4 (pcells (storedHead c t last))))
  case first =>
    obtain ⟨x0, x1, xl⟩ := HX.out.cells
    have e7 : Hid (bits BinOp.and IntKind.i64 (IntKind.i64.wrap (-IntKind.i64.wrap (c + 3))) 7 = (((-(c + 3)) % 8).toNat : Int)) := by
      show _ = _
      rw [i64_and7, IntKind.wrap_i64, IntKind.wrap_i64]
      omega
    have e8 : Hid (IntKind.i64.wrap (65535 - (t.size : Int)) = 65535 - (t.size : Int)) := by show _ = _; rw [IntKind.wrap_i64]; omega
    have HP : Hid ((pcells (storedHead c t last)).toArray = #[.int .i64 (headP 0 last).1, .int .i64 3, .bool false, .int .i64 0, .int .i64 (((-(c + 3)) % 8).toNat : Int), .bool false, .int .i64 (t.size : Int), .int .i64 16, .bool false, .int .i64 (65535 - (t.size : Int)), .int .i64 16, .bool false]) := rfl
    go_region_with (first | (go_at_call 31; refine (headPart_any 0 last _ (by omega)).mono ?_; rintro e w' ⟨rfl, hB⟩; have HY := hid_of ((by first | exact HX.out | exact HX.out.drew : SBx w _ s c).called hB); clear HX hB x0 x1 xl; have HX := HY; clear HY; obtain ⟨x0, x1, xl⟩ := HX.out.cells) | (go_at_call 32; refine (numberPart_any _ _ _).mono ?_; rintro e w' ⟨rfl, hB⟩; have HY := hid_of ((by first | exact HX.out | exact HX.out.drew : SBx w _ s c).called hB); clear HX hB x0 x1 xl; have HX := HY; clear HY; obtain ⟨x0, x1, xl⟩ := HX.out.cells))
    all_goals
      go_wp2_with fail
      go_meet
      case rel =>
        rw [e7.out, e8.out]
        exact ⟨HX.out.called (bstart _ _), _, rfl, by have := own_lit w' 60 (w.heap.size + 2) (by have := HX.out.res.2.2.2; omega) (storedHead c t last) (by simp [storedHead]); rw [HP.out] at this; exact this⟩
  case rest =>
    obtain ⟨hX, g, rfl, hO⟩ := hcut
    clear HX X
    have HX := hX
    have H0 : Hid (StW w wc s c (storedHead c t last) (.slice (some ⟨g, 0, none⟩) 4 4)) := ⟨hX.out, hO.out⟩
    clear hX hO
    go_wp2_with fail
    go_loopg [8, 32] (t.size + 1) (fun gk v i w' => ∃ (j g1 c1 : Nat), j ≤ t.size ∧ t.size - j ≤ gk ∧ i = .int .i64 j ∧ v = .slice (some ⟨g1, 0, none⟩) (4 + j) c1 ∧ Hid (StW w w' s c (storedHead c t last ++ byteParts ((numsOf t).take j)) (.slice (some ⟨g1, 0, none⟩) (4 + j) c1)))
    case atStart => exact ⟨0, g, 4, Nat.zero_le _, by omega, rfl, rfl, by simpa [byteParts] using H0⟩
    case round =>
      obtain ⟨j, g1, cp1, hj, hgk, rfl, rfl, hS⟩ := hrel
      by_cases hlt : j < t.size
      · have dl : decide ((j : Int) < (t.size : Int)) = true := decide_eq_true (by omega)
        have b0 : (0 : Int) ≤ (j : Int) := by omega
        have b1 : (j : Int) < (t.size : Int) := by omega
        have HT := hid_of (bytes_take hlt)
        have hw : wrap64 ((t[j]'hlt).toNat : Int) = ((t[j]'hlt).toNat : Int) := by have := UInt8.toNat_lt (t[j]'hlt); unfold wrap64; omega
        have hl : (storedHead c t last ++ byteParts ((numsOf t).take j)).length = 4 + j := by simp [storedHead, byteParts, numsOf_length]; omega
        have HL := hid_of hl
        clear hl
        go_wp2_with fail
        refine (numberPart_any _ _ _).mono ?_
        rintro e w' ⟨rfl, hB⟩
        have HS : Hid (StW w w' s c (storedHead c t last ++ byteParts ((numsOf t).take j)) (.slice (some ⟨g1, 0, none⟩) (4 + j) cp1)) := ⟨hS.out.1.called hB, row_called hS.out.2 hB⟩
        clear hB hS
        go_wp2_with (at_builtin; refine parts_append Tryz.underlying63 info_part (S := w.heap.size + 2) (xs := storedHead c t last ++ byteParts ((numsOf t).take j)) (ys := [(((t[j]'hlt).toNat : Int), 8, false)]) rfl _ _ rfl rfl (World.ownsRow.alloc HS.out.2 _) ⟨w'.heap.size, 0, none⟩ 1 1 rfl rfl (news_part w' _ _ _ _ _ rfl) (by rw [HL.out]; simp only [List.length_singleton]; omega) (by have := HS.out.1.res.2.2.2; simp; omega) ?_)
        intro v' w5 y1 y2 y3
        have y4 : w5.ownsRow (w.heap.size + 2) 60 3 v' (storedHead c t last ++ byteParts ((numsOf t).take (j + 1))).length (pcells (storedHead c t last ++ byteParts ((numsOf t).take (j + 1)))) := by
          rw [HT.out]
          simpa using y1
        have hl2 : (storedHead c t last ++ byteParts ((numsOf t).take (j + 1))).length = 4 + (j + 1) := by simp [storedHead, byteParts, numsOf_length]; omega
        have hX5 : SBx w w5 s c := (HS.out.1.called (bstart w' (.cells #[.int .i64 ((t[j]'hlt).toNat : Int), .int .i64 8, .bool false] 60))).grown y2 (HS.out.2.lt g1 rfl).1
        obtain ⟨g5, cp5, rfl⟩ := own_slice y4 (by omega)
        rw [hl2]
        have HN : Hid (StW w w5 s c (storedHead c t last ++ byteParts ((numsOf t).take (j + 1))) (.slice (some ⟨g5, 0, none⟩) (4 + (j + 1)) cp5)) := ⟨hX5, by rw [hl2] at y4; rw [hl2]; exact y4⟩
        clear y1 y2 y3 y4 hX5 hl2
        go_wp2_with fail
        go_roundg (t.size - (j + 1))
        case measure => omega
        case rel => exact ⟨j + 1, g5, cp5, by omega, Nat.le_refl _, by go_num, rfl, HN⟩
      · obtain rfl : j = t.size := by omega
        have dl : decide ((t.size : Int) < (t.size : Int)) = false := decide_eq_false (by omega)
        obtain ⟨x0, x1, xl⟩ := hS.out.1.cells
        have hl : (storedHead c t last ++ byteParts (numsOf t)).length = 4 + t.size := by simp [storedHead, byteParts, numsOf_length]; omega
        have hfull : (numsOf t).take t.size = numsOf t := by rw [← numsOf_length, List.take_length]
        rw [hfull] at hS
        obtain ⟨a2, c2, hv, _, _, _, hPC, _⟩ := pcame_of_own hS.out.2 rfl
        rw [hl] at hv
        cases hv
        have hW := withParts_any s c _ cp1 _ wr hPC (stored_right c t last ht) (by rw [hl]; omega) (by unfold maxLen; omega) hc1 hc2
        rw [hl] at hW
        have HX := hid_of hS.out.1
        clear hPC hS hl hfull
        go_wp2_with fail
        refine hW.mono ?_
        rintro e w5 ⟨rfl, hB⟩
        clear hW
        obtain ⟨z0, z1, zf, zl⟩ := (HX.out.called hB).res
        have HBB : Hid (Below w.heap.size w w5) := (HX.out.called hB).1
        clear hB
        obtain ⟨tt, n, b, he⟩ := blkAns_form ((outSt s c).bind fun o => bitsOut o (partBits (storedHead c t last ++ byteParts (numsOf t))))
        rw [he]
        go_wp2_with fail
        refine bodyPost_ret (v := .tuple #[.agg #[.string tt, .int .i64 n], .bool b]) ?_ rfl ⟨by rw [he], ?_⟩
        · simp [results, Tryz.results10, go_sem, z0, z1]
        · exact two_below HBB.out (Nat.le_succ _) _ _

set_option maxHeartbeats 800000 in
theorem stored_answer : StoredAnswer := by
  intro s c t last w hs hc1 hc2 ht
  by_cases h : t.size ≤ 2600
  · have hg := stored_good s c t last w hs hc1 hc2 h
    have e : storedOut s c t last = (outSt s c).bind fun o => bitsOut o (partBits (storedHead c t last ++ byteParts (numsOf t))) := by
      unfold storedOut
      rw [if_pos h]
      unfold outSt
      split
      · rename_i hb
        have hf := fits_of_outB s c hb
        obtain ⟨k, rfl⟩ := Int.eq_ofNat_of_zero_le hf.2.1
        show bitsOut _ _ = bitsOut _ _
        rw [stored_bits]
        rfl
      · rfl
    rw [e]
    exact hg
  · have dt : decide ((2600 : Int) < (t.size : Int)) = true := decide_eq_true (by omega)
    have dt' : decide (2600 < t.size) = true := decide_eq_true (by omega)
    have e : storedOut s c t last = none := if_neg h
    rw [e]
    have HX := hid_of (SBx.start w s c)
    go_enter Tryz.func10, Tryz.ntmps10
    go_wp2_with fail
    generalize (w.alloc _).alloc _ = X at HX ⊢
    obtain ⟨z0, z1, zf, zl⟩ := HX.out.res
    refine bodyPost_ret (v := .tuple #[.agg #[.string ⟨#[]⟩, .int .i64 0], .bool false]) ?_ rfl ⟨rfl, ?_⟩
    · simp [results, Tryz.results10, go_sem, z0, z1]
    · exact HX.out.1
end Go.Proofs.YtbcnlggkoidmmaaGreatDoor

namespace Go.Proofs.YtbcnlggkoidmmaaGreatDoor
open Go.RowKit Go.Joins

theorem sl_of_num {w : World} {S : Nat} {a : Option Addr} {n c : Nat} {O : List Int} (h : NumRow w S (.slice a n c) O) (hn : n = O.length) : SL w S a n c (fun j => O.getD j 0) := by
  rcases Nat.eq_zero_or_pos n with h0 | h0
  · exact .inl h0
  · obtain ⟨g, _, ho⟩ := own_of_ownsRow h (by omega)
    obtain ⟨cap, e⟩ := ho.form
    obtain ⟨e1, e2, e3⟩ := Value.slice.inj e
    subst e1 e3
    have e4 : fints (fun j => O.getD j 0) n = ivals O := by
      refine List.ext_getElem? (fun i => ?_)
      rcases Nat.lt_or_ge i O.length with q | q
      · rw [ivals_get O i q, List.getElem?_eq_getElem (by rw [fints_length]; omega), fints_get]
      · rw [List.getElem?_eq_none (by rw [fints_length]; omega), List.getElem?_eq_none (by rw [ivals_length]; exact q)]
    refine .inr ⟨g, rfl, ?_⟩
    unfold IOwn
    rw [e4]
    exact ho

end Go.Proofs.YtbcnlggkoidmmaaGreatDoor
