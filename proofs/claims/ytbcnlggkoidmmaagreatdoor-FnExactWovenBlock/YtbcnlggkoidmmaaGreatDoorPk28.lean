/-
  The walks of the program's parts of a block: a number as a part, a part put by the writer, all parts behind an Out.
  The two boxes that a function which writes a block makes first: the Out that it is handed, and its answer's.
  How often each symbol is told. Nothing here speaks of the program.
-/
import Derived.Test.YtbcnlggkoidmmaaGreatDoorRows
import Derived.Test.YtbcnlggkoidmmaaGreatDoorPk01
import Derived.Test.YtbcnlggkoidmmaaGreatDoorPk19
import Derived.Test.YtbcnlggkoidmmaaGreatDoorPk02
import Derived.Test.YtbcnlggkoidmmaaGreatDoorPk07
import Derived.Test.YtbcnlggkoidmmaaGreatDoorPk27
import Derived.Test.YtbcnlggkoidmmaaGreatDoorPk05
import Derived.Test.YtbcnlggkoidmmaaGreatDoorPk06
import Derived.WalkKit
import Derived.ProofKit
import Derived.WalkLawsBesides
import Derived.RegionTactic
import Derived.BigQuiet
import Derived.Below
import Derived.Deep.LoopGhost
import Derived.Lib.SmallJoins
namespace Go.Proofs.YtbcnlggkoidmmaaGreatDoor
open Go.RowKit Go.Joins OutMath PutMath BlockMath PartMath

theorem lay_called2 {X w' : World} {g : Nat} {o : Obj} (hB : Below X.heap.size X w') (h : X.heap[g]? = some o) : w'.heap[g]? = some o := (hB.block g (block_lt h)).trans h
theorem heap_two' (w : World) (A B : Obj) : ((w.alloc A).alloc B).heap[w.heap.size]? = some A := by
  show ((w.heap.push A).push B)[w.heap.size]? = some A
  rw [Array.getElem?_push_lt (by rw [Array.size_push]; omega), Array.getElem_push_eq]
theorem heap_second' (w : World) (A B : Obj) : ((w.alloc A).alloc B).heap[w.heap.size + 1]? = some B := by
  show ((w.heap.push A).push B)[w.heap.size + 1]? = some B
  have e : w.heap.size + 1 = (w.heap.push A).size := by rw [Array.size_push]
  rw [e, Array.getElem?_push_size]

theorem head_value (k : Nat) (h : k ≤ 2) : wrap64 ((k : Int) * 2) = (k : Int) * 2 ∧ bits .or .i64 ((k : Int) * 2) 1 = (k : Int) * 2 + 1 := by
  obtain rfl | rfl | rfl : k = 0 ∨ k = 1 ∨ k = 2 := by omega
  all_goals exact ⟨by decide +kernel, by decide +kernel⟩

/-- A block's first part. -/
def headP (kind : Nat) (last : Bool) : Part := ((kind : Int) * 2 + (if last then 1 else 0), 3, false)
theorem headP_right {kind : Nat} (h : kind ≤ 2) (last : Bool) : Right (headP kind last) := by
  unfold headP Right
  cases last <;> simp <;> omega
theorem headP_bits {kind : Nat} (h : kind ≤ 2) (last : Bool) : bitsP (headP kind last) = headBits kind last := by
  obtain rfl | rfl | rfl : kind = 0 ∨ kind = 1 ∨ kind = 2 := by omega
  all_goals cases last <;> decide +kernel

set_option maxHeartbeats 400000 in
theorem headPart_any (kind : Nat) (last : Bool) (w : World) (hk : kind ≤ 2) :
    Calls Tryz.prog 31 #[.int .i64 (kind : Int), .bool last] w fun e w' => e = .returned (.agg #[.int .i64 (headP kind last).1, .int .i64 3, .bool false]) ∧ Below w.heap.size w w' := by
  obtain ⟨h1, h2⟩ := head_value kind hk
  cases last with
  | false =>
    go_enter Tryz.func31, Tryz.ntmps31
    go_wp2_with fail
    refine (numberPart_any _ _ _).mono ?_
    rintro e w1 ⟨rfl, hB⟩
    have h0 : w1.heap[w.heap.size]? = some (.cells #[.int .i64 0, .int .i64 0, .bool false] 60 (0, 0)) := (hB.block _ (by simp)).trans (heap_alloc_new w _)
    have c0 : w1.cell? ⟨w.heap.size, 0, none⟩ = some (.int .i64 0) := (cell_of_block h0 0).trans rfl
    have c1 : w1.cell? ⟨w.heap.size, 1, none⟩ = some (.int .i64 0) := (cell_of_block h0 1).trans rfl
    have c2 : w1.cell? ⟨w.heap.size, 2, none⟩ = some (.bool false) := (cell_of_block h0 2).trans rfl
    have cf : ∀ i, w1.frozen? ⟨w.heap.size, i, none⟩ = false := fun i => by simp [World.frozen?, h0]
    have cl := block_lt h0
    have HB : Hid (Below w.heap.size w w1) := bnext (bstart _ _) hB
    clear h0 hB
    go_wp2_with fail
    refine bodyPost_ret (v := .agg #[.int .i64 (headP kind false).1, .int .i64 3, .bool false]) ?_ rfl ⟨rfl, ?_⟩
    · simp [results, Tryz.results31, go_sem, c0, c1, c2, headP]
    · exact Below.setCell (p := ⟨_, 2, none⟩) (two_below HB.out (Nat.le_refl _) _ _) (Nat.le_refl _) _
  | true =>
    go_enter Tryz.func31, Tryz.ntmps31
    go_wp2_with fail
    refine (numberPart_any _ _ _).mono ?_
    rintro e w1 ⟨rfl, hB⟩
    have h0 : w1.heap[w.heap.size]? = some (.cells #[.int .i64 0, .int .i64 0, .bool false] 60 (0, 0)) := (hB.block _ (by simp)).trans (heap_alloc_new w _)
    have c0 : w1.cell? ⟨w.heap.size, 0, none⟩ = some (.int .i64 0) := (cell_of_block h0 0).trans rfl
    have c1 : w1.cell? ⟨w.heap.size, 1, none⟩ = some (.int .i64 0) := (cell_of_block h0 1).trans rfl
    have c2 : w1.cell? ⟨w.heap.size, 2, none⟩ = some (.bool false) := (cell_of_block h0 2).trans rfl
    have cf : ∀ i, w1.frozen? ⟨w.heap.size, i, none⟩ = false := fun i => by simp [World.frozen?, h0]
    have cl := block_lt h0
    have HB : Hid (Below w.heap.size w w1) := bnext (bstart _ _) hB
    clear h0 hB
    go_wp2_with fail
    refine bodyPost_ret (v := .agg #[.int .i64 (headP kind true).1, .int .i64 3, .bool false]) ?_ rfl ⟨rfl, ?_⟩
    · simp [results, Tryz.results31, go_sem, c0, c1, c2, headP]
    · exact Below.setCell (p := ⟨_, 2, none⟩) (two_below HB.out (Nat.le_refl _) _ _) (Nat.le_refl _) _

theorem wr_called {w w' : World} {base b g L cap : Nat} {xs : List Int} {c : Int} (h : Wr w base b g L cap xs c) (hb : Below w.heap.size w w') : Wr w' base b g L cap xs c :=
  ⟨(hb.block _ (block_lt h.1)).trans h.1, h.2.1.keep (hb.block _ h.2.1.lt), h.2.2⟩

set_option maxHeartbeats 800000 in
theorem putPart_any (p : Part) (b g L cap : Nat) (xs : List Int) (c : Nat) (base : Nat) (w : World) (hW : Wr w base b g L cap xs c) (hI : Inv xs c) (hR : Right p) (hc : c + p.2.1 ≤ 96000) (hbw : base ≤ w.heap.size) :
    Calls Tryz.prog 62 #[.pointer (some ⟨b, 0, none⟩), .agg #[.int .i64 p.1, .int .i64 (p.2.1 : Int), .bool p.2.2]] w fun e w' => ∃ g' L' cap', e = .returned (.tuple #[]) ∧ Wr w' base b g' L' cap' (putB xs c (bitsP p)) ((c + p.2.1 : Nat) : Int) ∧ Below base w w' := by
  obtain ⟨x, n, high⟩ := p
  obtain ⟨hx0, hx1, hn⟩ := hR
  simp only [] at hx0 hx1 hn hc
  have HW : Hid (∀ o, Wr (w.alloc o) base b g L cap xs c) := fun o => wr_called hW (bstart _ _)
  have HI := hid_of hI
  clear hW hI
  cases high with
  | false =>
    have e1 : puts xs c (fun j => bitOf x j) n = putB xs c (bitsP (x, n, false)) := by
      unfold putB
      rw [bitsP_length]
      exact puts_congr n fun i hi => (pieceBits_getD x n false hi).symm
    rw [← e1]
    have HE := hid_of e1
    clear e1
    go_enter Tryz.func62, Tryz.ntmps62
    go_wp2_with fail
    refine (putNumber_any x n b g L cap xs c base _ (HW.out _) HI.out hx0 hx1 hn hc).mono ?_
    rintro e w1 ⟨g', L', cap', rfl, h1, h2⟩
    have HH := hid_of (And.intro h1 h2)
    clear h1 h2
    go_wp2_with fail
    go_end0
    exact ⟨g', L', cap', rfl, HH.out.1, ((Below.refl _ _).alloc hbw _).trans HH.out.2⟩
  | true =>
    have e1 : puts xs c (fun j => bitOf x (n - 1 - j)) n = putB xs c (bitsP (x, n, true)) := by
      unfold putB
      rw [bitsP_length]
      exact puts_congr n fun i hi => (pieceBits_getD x n true hi).symm
    rw [← e1]
    have HE := hid_of e1
    clear e1
    go_enter Tryz.func62, Tryz.ntmps62
    go_wp2_with fail
    refine (putCode_any x n b g L cap xs c base _ (HW.out _) HI.out hx0 hx1 hn hc).mono ?_
    rintro e w1 ⟨g', L', cap', rfl, h1, h2⟩
    have HH := hid_of (And.intro h1 h2)
    clear h1 h2
    go_wp2_with fail
    refine bodyPost_ret (v := .tuple #[]) (by simp [results, Tryz.results62, go_sem]) rfl ?_
    exact ⟨g', L', cap', rfl, HH.out.1, ((Below.refl _ _).alloc hbw _).trans HH.out.2⟩

/-- Under way: so many parts are put. -/
def WpSt (w1 wr : World) (base b : Nat) (s : ByteArray) (k : Nat) (L : List Part) (j : Nat) : Prop := ∃ g L' cap, Wr wr base b g L' cap (putB (numsOf s) k (partBits (L.take j))) ((k + (partBits (L.take j)).length : Nat) : Int) ∧ Below base w1 wr ∧ Inv (putB (numsOf s) k (partBits (L.take j))) (k + (partBits (L.take j)).length) ∧ k + (partBits (L.take j)).length ≤ 96000

set_option maxHeartbeats 1600000 in
theorem withParts_yes (s : ByteArray) (k : Nat) (a : Option Addr) (cap : Nat) (L : List Part) (w : World) (hC : PCame w a L) (hR : ∀ p ∈ L, Right p) (hL : L.length ≤ 1000000) (hs : outB s k = true) :
    Calls Tryz.prog 33 #[.agg #[.string s, .int .i64 (k : Int)], .slice a L.length cap] w fun e w' => e = .returned (blkAns (bitsOut (s, k) (partBits L))) ∧ Below w.heap.size w w' := by
  obtain ⟨q1, q2, q3, q4⟩ := fits_of_outB s k hs
  have hO := fun w => implOut_any s k w (by unfold maxLen; omega) (by omega) (by omega)
  rw [hs] at hO
  have HC := hid_of hC
  have HR := hid_of hR
  have HS := hid_of hs
  have HI : Hid (Inv (numsOf s) k) := bytes_inv s k hs
  clear hC hR hs q4
  go_enter Tryz.func33, Tryz.ntmps33
  go_wp2_with fail
  refine (hO _).mono ?_
  rintro e w1 ⟨rfl, hB1⟩
  have r1 : w1.heap[w.heap.size]? = some (.cells #[.string s, .int .i64 (k : Int)] 31 (0, 0)) := lay_called2 hB1 (heap_two' w _ _)
  have r2 : w1.heap[w.heap.size + 1]? = some (.cells #[.string ⟨#[]⟩, .int .i64 0] 31 (0, 0)) := lay_called2 hB1 (heap_second' w _ _)
  have c0 : w1.cell? ⟨w.heap.size, 0, none⟩ = some (.string s) := (cell_of_block r1 0).trans rfl
  have c1 : w1.cell? ⟨w.heap.size, 1, none⟩ = some (.int .i64 (k : Int)) := (cell_of_block r1 1).trans rfl
  have HB1 : Hid (Below w.heap.size w w1) := bnext (bal (bstart _ _) _) hB1
  have HR2 := hid_of r2
  clear hO r1 r2 hB1
  go_wp2_with fail
  refine (newWriter s k _ q1).mono ?_
  rintro e w2 ⟨b, g0, cap0, rfl, hW2, hB2⟩
  have hsz := hB2.size
  have HW2 : Hid (WpSt w1 w2 w1.heap.size b s k L 0) := ⟨g0, s.size, cap0, hW2, hB2, by simpa [partBits, putB_nil] using HI.out, by simp [partBits]; omega⟩
  clear hW2 hB2 c0 c1
  have HX : Hid (∀ W, Below w1.heap.size w1 W → Below w.heap.size w W ∧ PCame W a L ∧ W.heap[w.heap.size + 1]? = some (.cells #[.string ⟨#[]⟩, .int .i64 0] 31 (0, 0))) := fun W h => ⟨bnext HB1.out h, HC.out.called (bnext HB1.out h), lay_called2 h HR2.out⟩
  have hwl : w.heap.size + 1 < w1.heap.size := block_lt HR2.out
  clear HB1 HC HR2
  go_wp2_with fail
  generalize w1.heap.size = B at *
  go_loopg [17] (L.length + 1) (fun gk i w' => ∃ (j : Nat), j ≤ L.length ∧ L.length - j ≤ gk ∧ i = .int .i64 j ∧ Hid (WpSt w1 w' B b s k L j))
  case atStart => exact ⟨0, Nat.zero_le _, by omega, rfl, HW2⟩
  case round =>
    obtain ⟨j, hj, hgk, rfl, hS⟩ := hrel
    obtain ⟨g, L', cp, hWr, hBw, hInv, hle⟩ := hS.out
    by_cases hlt : j < L.length
    · have c1 := hWr.c1
      have bl := hWr.lt
      have dl : decide ((j : Int) < (L.length : Int)) = true := decide_eq_true (by omega)
      rcases (HX.out wr hBw).2.1 with q | ⟨pg, off, rfl, hpg, hc⟩
      · omega
      obtain ⟨f0, f1, f2⟩ := hc j hlt
      have hp : Right (L.getD j (0, 0, false)) := HR.out _ (by rw [List.getD_eq_getElem?_getD, List.getElem?_eq_getElem hlt]; exact List.getElem_mem hlt)
      have htk := partBits_take hlt
      have htl := partBits_take_le L (j + 1)
      obtain ⟨⟨x, n, hi⟩, hr⟩ : ∃ r, r = L.getD j (0, 0, false) := ⟨_, rfl⟩
      rw [← hr] at f0 f1 f2 hp htk
      rw [htk, List.length_append, bitsP_length] at htl
      simp only [] at f0 f1 f2 htl
      have hn : n ≤ 24 := hp.2.2
      have HTK := hid_of htk
      have HP := hid_of hp
      have r2 := (HX.out wr hBw).2.2
      have z0 : wr.cell? ⟨w.heap.size + 1, 0, none⟩ = some (.string ⟨#[]⟩) := (cell_of_block r2 0).trans rfl
      have z1 : wr.cell? ⟨w.heap.size + 1, 1, none⟩ = some (.int .i64 0) := (cell_of_block r2 1).trans rfl
      have zf : ∀ i, wr.frozen? ⟨w.heap.size + 1, i, none⟩ = false := fun i => by simp [World.frozen?, r2]
      have zl := block_lt r2
      obtain ⟨q, hq⟩ : ∃ q, q = k + (partBits (L.take j)).length := ⟨_, rfl⟩
      rw [← hq] at c1 hWr hInv hle
      obtain ⟨ys, hys⟩ : ∃ ys, ys = putB (numsOf s) k (partBits (L.take j)) := ⟨_, rfl⟩
      rw [← hys] at hWr hInv
      have HQ := hid_of hq
      have HY := hid_of hys
      have HTL : Hid (k + ((partBits (L.take j)).length + n) ≤ k + (partBits L).length) := by show _ ≤ _; omega
      have HWr := hid_of hWr
      have HBw := hid_of hBw
      have HInv := hid_of hInv
      have hbs : B ≤ wr.heap.size := by have := hWr.2.2.2; omega
      clear hc hr hp htk htl hq hys hWr hBw hInv hS r2
      by_cases hroom : q + n ≤ 96000
      · have dr : decide ((96000 : Int) < (q : Int) + (n : Int)) = false := decide_eq_false (by omega)
        go_wp2_with fail
        go_region
        all_goals
          go_wp2_with fail
          refine (putPart_any (x, n, hi) b g L' cp ys q B _ (wr_called HWr.out (bstart wr _).drew) HInv.out HP.out hroom (by show B ≤ (wr.alloc _).heap.size; simp; omega)).mono ?_
          rintro e w3 ⟨g', L2, cap', rfl, hW3, hB3⟩
          have HN : Hid (WpSt w1 w3 B b s k L (j + 1)) := by
            have e1 : putB (numsOf s) k (partBits (L.take (j + 1))) = putB ys q (bitsP (x, n, hi)) := by rw [HTK.out, putB_append, ← HY.out, ← HQ.out]
            have e2 : k + (partBits (L.take (j + 1))).length = q + n := by rw [HTK.out, List.length_append, bitsP_length, HQ.out]; simp only []; omega
            refine ⟨g', L2, cap', ?_, HBw.out.trans (((Below.refl _ _).alloc hbs _).drew.trans hB3), ?_, ?_⟩
            · rw [e1, e2]; exact hW3
            · rw [e1, e2]
              have := putB_inv HInv.out (pieceBits_01 x n hi)
              rw [pieceBits_length] at this
              exact this
            · omega
          clear hW3 hB3
          go_wp2_with fail
          go_roundg (L.length - (j + 1))
          case measure => omega
          case rel => exact ⟨j + 1, by omega, Nat.le_refl _, by go_num, HN⟩
      · have dr : decide ((96000 : Int) < (q : Int) + (n : Int)) = true := decide_eq_true (by omega)
        have HN : Hid (bitsOut (s, k) (partBits L) = none) := bitsOut_none (fun h => hroom (by have h1 := h.2; have h2 := HTL.out; have h3 := HQ.out; omega))
        have HBB : Hid (Below w.heap.size w wr) := (HX.out wr HBw.out).1
        go_wp2_with fail
        go_region
        all_goals
          go_wp2_with fail
          refine bodyPost_ret (v := .tuple #[.agg #[.string ⟨#[]⟩, .int .i64 0], .bool false]) ?_ rfl ⟨by rw [HN.out]; rfl, ?_⟩
          · have zz : ∀ (o : Obj) (i : Nat), (((wr.setCell ⟨w.heap.size + 1, 0, none⟩ (.string ⟨#[]⟩)).setCell ⟨w.heap.size + 1, 1, none⟩ (.int .i64 0)).alloc o).cell? ⟨w.heap.size + 1, i, none⟩ = ((wr.setCell ⟨w.heap.size + 1, 0, none⟩ (.string ⟨#[]⟩)).setCell ⟨w.heap.size + 1, 1, none⟩ (.int .i64 0)).cell? ⟨w.heap.size + 1, i, none⟩ := fun o i => grow_cell o (by simpa using zl) i
            simp [results, Tryz.results33, go_sem, zz, z0, z1]
          · exact (bal (two_below HBB.out (Nat.le_succ _) _ _) _).drew
    · obtain rfl : L.length = j := by omega
      have dl : decide ((L.length : Int) < (L.length : Int)) = false := decide_eq_false (by omega)
      rw [List.take_length] at hWr hle
      have HA : Hid (bitsOut (s, k) (partBits L) = some (strOfNums (putB (numsOf s) k (partBits L)), k + (partBits L).length)) := bitsOut_some HS.out hle
      obtain ⟨q, hq⟩ : ∃ q, q = k + (partBits L).length := ⟨_, rfl⟩
      obtain ⟨ys, hys⟩ : ∃ ys, ys = putB (numsOf s) k (partBits L) := ⟨_, rfl⟩
      rw [← hq, ← hys] at HA hWr
      have HWr := hid_of hWr
      have HBw := hid_of hBw
      clear hq hys hWr hle hInv hS hBw
      go_wp2_with fail
      refine (writerOut b g L' cp ys _ B _ HWr.out).mono ?_
      rintro e w3 ⟨rfl, hB3⟩
      have r2 := lay_called2 hB3 (HX.out wr HBw.out).2.2
      have HBB : Hid (Below w.heap.size w w3) := bnext (HX.out wr HBw.out).1 hB3
      have z0 : w3.cell? ⟨w.heap.size + 1, 0, none⟩ = some (.string ⟨#[]⟩) := (cell_of_block r2 0).trans rfl
      have z1 : w3.cell? ⟨w.heap.size + 1, 1, none⟩ = some (.int .i64 0) := (cell_of_block r2 1).trans rfl
      have zf : ∀ i, w3.frozen? ⟨w.heap.size + 1, i, none⟩ = false := fun i => by simp [World.frozen?, r2]
      have zl := block_lt r2
      clear r2 hB3
      go_wp2_with fail
      refine bodyPost_ret (v := .tuple #[.agg #[.string (strOfNums ys), .int .i64 (q : Int)], .bool true]) ?_ rfl ⟨by rw [HA.out]; rfl, ?_⟩
      · simp [results, Tryz.results33, go_sem, z0, z1]
      · exact two_below HBB.out (Nat.le_succ _) _ _

set_option maxHeartbeats 400000 in
theorem withParts_no (s : ByteArray) (c : Int) (a : Option Addr) (cap n : Nat) (w : World) (hs : s.size ≤ maxLen) (hc1 : -9223372036854775808 ≤ c) (hc2 : c ≤ 9223372036854775807) (h : outB s c = false) :
    Calls Tryz.prog 33 #[.agg #[.string s, .int .i64 c], .slice a n cap] w fun e w' => e = .returned (blkAns none) ∧ Below w.heap.size w w' := by
  have hO := fun w => implOut_any s c w hs hc1 hc2
  rw [h] at hO
  go_enter Tryz.func33, Tryz.ntmps33
  go_wp2_with fail
  refine (hO _).mono ?_
  rintro e w1 ⟨rfl, hB1⟩
  have r2 : w1.heap[w.heap.size + 1]? = some (.cells #[.string ⟨#[]⟩, .int .i64 0] 31 (0, 0)) := lay_called2 hB1 (heap_second' w _ _)
  have HBB : Hid (Below w.heap.size w w1) := bnext (bal (bstart _ _) _) hB1
  have z0 : w1.cell? ⟨w.heap.size + 1, 0, none⟩ = some (.string ⟨#[]⟩) := (cell_of_block r2 0).trans rfl
  have z1 : w1.cell? ⟨w.heap.size + 1, 1, none⟩ = some (.int .i64 0) := (cell_of_block r2 1).trans rfl
  have zf : ∀ i, w1.frozen? ⟨w.heap.size + 1, i, none⟩ = false := fun i => by simp [World.frozen?, r2]
  have zl := block_lt r2
  clear r2 hB1 hO
  go_wp2_with fail
  refine bodyPost_ret (v := .tuple #[.agg #[.string ⟨#[]⟩, .int .i64 0], .bool false]) ?_ rfl ⟨rfl, ?_⟩
  · simp [results, Tryz.results33, go_sem, z0, z1]
  · exact two_below HBB.out (Nat.le_succ _) _ _

/-- All parts behind an Out. -/
theorem withParts_any (s : ByteArray) (c : Int) (a : Option Addr) (cap : Nat) (L : List Part) (w : World) (hC : PCame w a L) (hR : ∀ p ∈ L, Right p) (hL : L.length ≤ 1000000) (hs : s.size ≤ maxLen) (hc1 : -9223372036854775808 ≤ c) (hc2 : c ≤ 9223372036854775807) :
    Calls Tryz.prog 33 #[.agg #[.string s, .int .i64 c], .slice a L.length cap] w fun e w' => e = .returned (blkAns ((outSt s c).bind fun o => bitsOut o (partBits L))) ∧ Below w.heap.size w w' := by
  cases h : outB s c with
  | false =>
    rw [show outSt s c = none from if_neg (by rw [h]; decide)]
    exact withParts_no s c a cap _ w hs hc1 hc2 h
  | true =>
    have hf := fits_of_outB s c h
    obtain ⟨k, rfl⟩ := Int.eq_ofNat_of_zero_le hf.2.1
    rw [show outSt s k = some (s, k) from if_pos h]
    exact withParts_yes s k a cap L w hC hR hL h
end Go.Proofs.YtbcnlggkoidmmaaGreatDoor

namespace Go.Proofs.YtbcnlggkoidmmaaGreatDoor
open Go.RowKit Go.Joins

/-- The boxes of the call. -/
def SBx (w X : World) (s : ByteArray) (c : Int) : Prop := Below w.heap.size w X ∧ X.heap[w.heap.size]? = some (.cells #[.string s, .int .i64 c] 31 (0, 0)) ∧ X.heap[w.heap.size + 1]? = some (.cells #[.string ⟨#[]⟩, .int .i64 0] 31 (0, 0))
theorem SBx.start (w : World) (s : ByteArray) (c : Int) : SBx w ((w.alloc (.cells #[.string s, .int .i64 c] 31)).alloc (.cells #[.string ⟨#[]⟩, .int .i64 0] 31)) s c := ⟨bal (bstart _ _) _, heap_two' w _ _, heap_second' w _ _⟩
theorem SBx.called {w X Y : World} {s : ByteArray} {c : Int} (h : SBx w X s c) (hb : Below X.heap.size X Y) : SBx w Y s c := ⟨bnext h.1 hb, lay_called2 hb h.2.1, lay_called2 hb h.2.2⟩
theorem SBx.drew {w X : World} {s : ByteArray} {c : Int} (h : SBx w X s c) : SBx w X.drew s c := ⟨h.1.drew, h.2⟩
theorem SBx.grown {w X Y : World} {s : ByteArray} {c : Int} {g : Nat} (h : SBx w X s c) (hg : X.grownBy Y (some g)) (hl : w.heap.size + 2 ≤ g) : SBx w Y s c := by
  obtain ⟨k1, k2, k3⟩ := h
  have h1 := k1.size
  refine ⟨k1.grown hg h1 (fun q hq => by obtain rfl : g = q := Option.some.inj hq; exact Nat.le_trans (by omega) hl), ?_, ?_⟩
  · exact (hg.block _ (block_lt k2) (fun e => by have := Option.some.inj e; omega)).trans k2
  · exact (hg.block _ (block_lt k3) (fun e => by have := Option.some.inj e; omega)).trans k3
theorem SBx.cells {w X : World} {s : ByteArray} {c : Int} (h : SBx w X s c) : X.cell? ⟨w.heap.size, 0, none⟩ = some (.string s) ∧ X.cell? ⟨w.heap.size, 1, none⟩ = some (.int .i64 c) ∧ w.heap.size < X.heap.size := ⟨(cell_of_block h.2.1 0).trans rfl, (cell_of_block h.2.1 1).trans rfl, block_lt h.2.1⟩
theorem SBx.res {w X : World} {s : ByteArray} {c : Int} (h : SBx w X s c) : X.cell? ⟨w.heap.size + 1, 0, none⟩ = some (.string ⟨#[]⟩) ∧ X.cell? ⟨w.heap.size + 1, 1, none⟩ = some (.int .i64 0) ∧ (∀ i, X.frozen? ⟨w.heap.size + 1, i, none⟩ = false) ∧ w.heap.size + 1 < X.heap.size := ⟨(cell_of_block h.2.2 0).trans rfl, (cell_of_block h.2.2 1).trans rfl, fun i => by simp [World.frozen?, h.2.2], block_lt h.2.2⟩
end Go.Proofs.YtbcnlggkoidmmaaGreatDoor

namespace Go.Proofs.YtbcnlggkoidmmaaGreatDoor
namespace CntMath
open TokMath StepMath TokLenMath TellMath

/-- How often a symbol of the first code (or the second) is told. -/
def cnt (b : Bool) (S : List (Bool × Cod)) (i : Nat) : Int := ((S.filter fun x => decide (x.1 = b ∧ x.2.1.toNat = i)).length : Int)
theorem cnt_le (b : Bool) (S : List (Bool × Cod)) (i : Nat) : 0 ≤ cnt b S i ∧ cnt b S i ≤ S.length := by
  unfold cnt
  have := List.length_filter_le (fun x : Bool × Cod => decide (x.1 = b ∧ x.2.1.toNat = i)) S
  omega
theorem cnt_app (b : Bool) (S R : List (Bool × Cod)) (i : Nat) : cnt b (S ++ R) i = cnt b S i + cnt b R i := by
  unfold cnt
  rw [List.filter_append, List.length_append]
  omega
theorem cnt_one (b : Bool) (s : Cod) (i : Nat) : cnt b [(b, s)] i = if i = s.1.toNat then 1 else 0 := by
  unfold cnt
  by_cases h : i = s.1.toNat
  · subst h
    simp
  · have h' : ¬ s.1.toNat = i := fun e => h e.symm
    simp [h, h']
theorem cnt_none (b : Bool) (s : Cod) (i : Nat) : cnt b [(!b, s)] i = 0 := by
  unfold cnt
  cases b <;> simp
theorem cnt_snoc (S : List (Bool × Cod)) (b : Bool) (s : Cod) (i : Nat) : upd (cnt b S) s.1.toNat (cnt b S s.1.toNat + 1) i = cnt b (S ++ [(b, s)]) i := by
  rw [cnt_app, cnt_one]
  unfold upd
  by_cases h : i = s.1.toNat
  · rw [if_pos h, if_pos h, h]
  · rw [if_neg h, if_neg h]
    omega
theorem cnt_other (S : List (Bool × Cod)) {b : Bool} (s : Cod) (i : Nat) : cnt (!b) S i = cnt (!b) (S ++ [(b, s)]) i := by
  have := cnt_none (!b) s i
  rw [Bool.not_not] at this
  rw [cnt_app, this]
  omega
/-- Of tokens: as the model counts. -/
theorem cnt_first : ∀ (L : List Tok) (i : Nat), (if i = 256 then 1 else 0) + cnt false (symsL L) i = cntA L i
  | [], i => rfl
  | t :: L, i => by
    have ih := cnt_first L i
    have e : symsL (t :: L) = symsT t ++ symsL L := rfl
    rw [e, cnt_app]
    have h1 : cntA (t :: L) i = (if i = sym1 t then 1 else 0) + cntA L i := by
      unfold cntA
      rw [List.filter_cons]
      by_cases h : i = sym1 t
      · rw [if_pos h, if_pos (decide_eq_true h.symm), List.length_cons]
        omega
      · have h' : ¬ decide (sym1 t = i) = true := by simpa using fun e : sym1 t = i => h e.symm
        rw [if_neg h, if_neg h']
        omega
    have h2 : cnt false (symsT t) i = if i = sym1 t then 1 else 0 := by
      obtain ⟨x, y, z⟩ := t
      by_cases hy : y = 0
      · subst hy
        rw [symsT_byte, sym1_byte, cnt_one]
      · rw [symsT_rep _ _ hy, sym1_rep hy, show [(false, LengthCodeOf y), (true, DistCodeOf z)] = [(false, LengthCodeOf y)] ++ [(!false, DistCodeOf z)] from rfl, cnt_app, cnt_one, cnt_none]
        omega
    rw [h1, h2, ← ih]
    omega
theorem cnt_second : ∀ (L : List Tok) (i : Nat), cnt true (symsL L) i = cntB L i
  | [], i => rfl
  | t :: L, i => by
    have ih := cnt_second L i
    have e : symsL (t :: L) = symsT t ++ symsL L := rfl
    rw [e, cnt_app, ih]
    obtain ⟨x, y, z⟩ := t
    unfold cntB
    rw [List.filter_cons]
    by_cases hy : y = 0
    · subst hy
      rw [symsT_byte, show cnt true [(false, (x, 0, 0))] i = 0 from cnt_none true _ i, if_neg (by simp)]
      omega
    · rw [symsT_rep _ _ hy, show [(false, LengthCodeOf y), (true, DistCodeOf z)] = [(!true, LengthCodeOf y)] ++ [(true, DistCodeOf z)] from rfl, cnt_app, cnt_one, cnt_none]
      by_cases h : i = (DistCodeOf z).1.toNat
      · rw [if_pos h, if_pos (decide_eq_true ⟨hy, h.symm⟩), List.length_cons]
        omega
      · have h' : ¬ decide ((x, y, z).2.1 ≠ 0 ∧ sym2 (x, y, z) = i) = true := by
          rw [decide_eq_true_eq]
          exact fun e => h e.2.symm
        rw [if_neg h, if_neg h']
        omega
end CntMath
end Go.Proofs.YtbcnlggkoidmmaaGreatDoor
