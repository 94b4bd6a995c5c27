/-
  The walks of PutCode in the document's model.
  Bits under way in the document's model of blocks: the record, how a number is put.
  The walk of the model's l09Head: a block's three first bits.
  The walks of FillByte, in the document's model and in the program.
-/
import Derived.Test.YtbcnlggkoidmmabGreatDoorRows
import Derived.Test.YtbcnlggkoidmmabGreatDoorPk01
import Derived.Test.YtbcnlggkoidmmabGreatDoorPk07
import Derived.Test.YtbcnlggkoidmmabGreatDoorPk08
import Derived.Test.YtbcnlggkoidmmabGreatDoorPk03
import Derived.Test.YtbcnlggkoidmmabGreatDoorPk02
import Derived.WalkKit
import Derived.ProofKit
import Derived.WalkLawsBesides
import Derived.Lib.SmallJoins
import Derived.Below
import Derived.Laws.AppendOwn
import Derived.Maps.AppendAt
import Derived.RegionTactic
import Derived.Deep.QuietTactic
import Derived.Deep.RegionWith
import Derived.BigQuiet
namespace Go.Proofs.YtbcnlggkoidmmabGreatDoor
open Go.RowKit Go.Joins OutMath PutMath

set_option maxRecDepth 100000 in
set_option maxHeartbeats 800000 in
theorem specPutCode_yes (s : ByteArray) (c : Nat) (x : Int) (n : Nat) (w : World) (h : May s c x n) :
    Calls Tryz.prog 45 #[.agg #[.string s, .int .i64 c], .int .i64 x, .int .i64 n] w fun e w' => e = .returned (.tuple #[.agg #[.string (putOut s c x (fun j => n - 1 - j) n), .int .i64 ((c + n : Nat) : Int)], .bool true]) ∧ Below w.heap.size w w' := by
  obtain ⟨h1, h2, h3, h4, h5, h6⟩ := id h
  obtain ⟨q1, q2, q3, q4⟩ := fits_of_outB s c h1
  have HI : Hid (Inv (s.data.toList.map fun b => (b.toNat : Int)) c) := bytes_inv s c h1
  have hp : p2 n ≤ 16777216 := by
    have h1 := p2_le (show n ≤ 24 by omega)
    have h2 : p2 24 = 16777216 := by decide +kernel
    omega
  have hx : x ≤ 16777216 := by rw [Int.toNat_natCast] at h5; omega
  have HM : Hid (May s c x n) := h
  clear q4 h1 h5 h
  go_enter Tryz.func45, Tryz.ntmps45
  go_wp2_with fail
  refine (l01May_yes s c x n _ (by unfold maxLen; omega) (by omega) (by omega) HM.out).mono ?_
  rintro e w1 ⟨rfl, hb1⟩
  obtain ⟨W, hW⟩ : ∃ W, W = (w.alloc (.cells #[.string s, .int .i64 c] 27)).alloc (.cells #[.string ⟨#[]⟩, .int .i64 0] 27) := ⟨_, rfl⟩
  rw [← hW] at hb1
  have hWs : W.heap.size = w.heap.size + 1 + 1 := by rw [hW]; simp
  have hBW : Below w.heap.size w W := by rw [hW]; exact bal (bstart _ _) _
  have hcW : W.cell? ⟨w.heap.size, 0, none⟩ = some (.string s) ∧ W.cell? ⟨w.heap.size, 1, none⟩ = some (.int .i64 c) ∧ W.cell? ⟨w.heap.size + 1, 0, none⟩ = some (.string ⟨#[]⟩) ∧ W.cell? ⟨w.heap.size + 1, 1, none⟩ = some (.int .i64 0) ∧ ∀ j, W.frozen? ⟨w.heap.size + 1, j, none⟩ = false := by rw [hW]; simp
  clear hW
  rw [hWs] at hb1
  have hz1 := hb1.size
  go_wp2_with fail
  have hE : Own 3 (w1.alloc (.cells #[] 3)) (w.heap.size + 1 + 1) w1.heap.size (.slice (some ⟨w1.heap.size, 0, none⟩) 0 0) [] := ⟨0, #[], (0, 0), rfl, by omega, heap_alloc_new w1 _, .inl rfl, Nat.le_refl _, Nat.zero_le _, rfl, rfl⟩
  go_loopw [8, 9] (fun v i w' => ∃ j g cap : Nat, j ≤ n ∧ i = .int .i64 ((n : Int) - 1 - j) ∧ v = .slice (some ⟨g, 0, none⟩) j cap ∧ Hid (Own 3 w' (w.heap.size + 1 + 1) g (.slice (some ⟨g, 0, none⟩) j cap) (places (fun j => n - 1 - j) j)) ∧ Below (w.heap.size + 1 + 1) W w') (fun v _ _ => n - (sliceLen v))
  case atStart => exact ⟨0, w1.heap.size, 0, Nat.zero_le _, by simp, rfl, hE, hb1.alloc (by omega) _⟩
  case round =>
    obtain ⟨j, g, cap, hj, rfl, rfl, hO, hB⟩ := hrel
    have hbl := hO.out.base_le
    have hBs := hB.size
    by_cases hlt : j < n
    · obtain ⟨i0, hi0, hz0, hz1, hz2⟩ := info_parts info_int
      have hpl := places_length (fun j => n - 1 - j) j
      have hl63 : (places (fun j => n - 1 - j) j).length + 1 ≤ maxLen ∧ ((places (fun j => n - 1 - j) j).length + 1) * 8 ≤ 140737488355328 := by rw [hpl]; unfold maxLen; omega
      have HN : Hid (places (fun j => n - 1 - j) j ++ [.int .i64 ((n : Int) - 1 - j)] = places (fun j => n - 1 - j) (j + 1)) := by
        have e : (((n : Int) - 1 - j) : Int) = (((fun j => n - 1 - j) j : Nat) : Int) := by simp; omega
        rw [e]
        rfl
      clear hpl
      go_wp2_with (at_builtin; refine wpList_append1 rfl _ _ 51 rfl i0 (.int .i64 0) 8 Tryz.underlying51 hi0 hz0 hz1 hz2 rfl rfl (hO.out.alloc _) ⟨wr.heap.size, 0, none⟩ 1 (.int .i64 ((n : Int) - 1 - j)) rfl ?c1 rfl rfl hl63.1 hl63.2 ?_)
      case c1 => simp
      · intro g1 v1 w2 hO1 hg1 hgr
        rw [HN.out] at hO1
        have hB1 : Below (w.heap.size + 1 + 1) W w2 := (hB.alloc (by omega) _).grown hgr (by simp; omega) (fun k hk => by cases hk; exact hbl)
        obtain ⟨cap1, hv1⟩ := hO1.form
        rw [places_length] at hv1
        rw [hv1]
        rw [hv1] at hO1
        have HO1 : Hid (Own 3 w2 (w.heap.size + 1 + 1) g1 (.slice (some ⟨g1, 0, none⟩) (j + 1) cap1) (places (fun j => n - 1 - j) (j + 1))) := hO1
        clear hO1 hg1 hgr hv1 hi0 hz0 hz1 hz2 hl63
        go_wp2_with fail
        go_roundw
        case rel => exact ⟨j + 1, g1, cap1, by omega, by go_num, rfl, HO1, hB1⟩
        case measure => simp [sliceLen]; omega
    · obtain rfl : n = j := by omega
      have k0 : wr.cell? ⟨w.heap.size, 0, none⟩ = some (.string s) := (hB.cell (p := ⟨w.heap.size, 0, none⟩) (by simp; omega)).trans hcW.1
      have k1 : wr.cell? ⟨w.heap.size, 1, none⟩ = some (.int .i64 c) := (hB.cell (p := ⟨w.heap.size, 1, none⟩) (by simp; omega)).trans hcW.2.1
      go_wp2_with fail
      refine (l01Put_any s c x n (fun j => n - 1 - j) g cap (s.data.toList.map fun b => (b.toNat : Int)) wr q1 rfl HI.out (by omega) h4 hx (by omega) hO.out.lt (fun i hi => ⟨?_, by simp; omega⟩)).mono ?_
      · rw [hO.out.cell i (by rw [places_length]; exact hi), places_get]
      rintro e w2 ⟨rfl, hb2⟩
      have hB2 : Below (w.heap.size + 1 + 1) W w2 := hB.trans (hb2.mono (by omega))
      have r0 : w2.cell? ⟨w.heap.size + 1, 0, none⟩ = some (.string ⟨#[]⟩) := (hB2.cell (p := ⟨w.heap.size + 1, 0, none⟩) (by simp)).trans hcW.2.2.1
      have r1 : w2.cell? ⟨w.heap.size + 1, 1, none⟩ = some (.int .i64 0) := (hB2.cell (p := ⟨w.heap.size + 1, 1, none⟩) (by simp)).trans hcW.2.2.2.1
      have rf : ∀ i, w2.frozen? ⟨w.heap.size + 1, i, none⟩ = false := fun i => (hB2.frozen (p := ⟨w.heap.size + 1, i, none⟩) (by simp)).trans (hcW.2.2.2.2 i)
      have hBB : Below w.heap.size w w2 := hBW.trans (hB2.mono (by omega))
      go_wp2_with fail
      refine bodyPost_ret (v := .tuple #[.agg #[.string (putOut s c x (fun j => n - 1 - j) n), .int .i64 ((c + n : Nat) : Int)], .bool true]) ?_ rfl ⟨rfl, ?_⟩
      · simp [results, Tryz.results45, go_sem, r0, r1, putOut]
      · refine Below.setCell (Below.setCell hBB ?_ _) ?_ _
        · simp
        · simp

set_option maxRecDepth 100000 in
set_option maxHeartbeats 400000 in
theorem specPutCode_no (s : ByteArray) (c x n : Int) (w : World) (hs : s.size ≤ maxLen) (hc1 : -9223372036854775808 ≤ c) (hc2 : c ≤ 9223372036854775807) (h : ¬ May s c x n) :
    Calls Tryz.prog 45 #[.agg #[.string s, .int .i64 c], .int .i64 x, .int .i64 n] w fun e w' => e = .returned (.tuple #[.agg #[.string ⟨#[]⟩, .int .i64 0], .bool false]) ∧ Below w.heap.size w w' := by
  have H : Hid (¬ May s c x n) := h
  clear h
  go_enter Tryz.func45, Tryz.ntmps45
  go_wp2_with fail
  refine (l01May_no s c x n _ hs hc1 hc2 H.out).mono ?_
  rintro e w1 ⟨rfl, hb1⟩
  obtain ⟨k1, f1⟩ := bcell hb1
  have hz : w.heap.size + 1 < w1.heap.size := by have := hb1.size; simp at this; omega
  have hB : Below w.heap.size w w1 := bnext (bal (bstart _ _) _) hb1
  go_wp2_with fail
  refine bodyPost_ret (v := .tuple #[.agg #[.string ⟨#[]⟩, .int .i64 0], .bool false]) (by simp [results, Tryz.results45, go_sem, k1]) rfl ⟨rfl, ?_⟩
  refine Below.setCell (Below.setCell hB ?_ _) ?_ _
  · simp
  · simp

end Go.Proofs.YtbcnlggkoidmmabGreatDoor

namespace Go.Proofs.YtbcnlggkoidmmabGreatDoor
open Go.RowKit Go.Joins OutMath BlockMath

/-- The record of bits under way lies in block b. -/
def OB (w : World) (b : Nat) (s : ByteArray) (c : Int) (bad : Bool) : Prop := w.heap[b]? = some (.cells #[.string s, .int .i64 c, .bool bad] 45 (0, 0))
section
variable {w w' : World} {b : Nat} {s : ByteArray} {c : Int} {bad : Bool}
theorem OB.lt (h : OB w b s c bad) : b < w.heap.size := block_lt h
theorem OB.cells (h : OB w b s c bad) : w.cell? ⟨b, 0, none⟩ = some (.string s) ∧ w.cell? ⟨b, 1, none⟩ = some (.int .i64 c) ∧ w.cell? ⟨b, 2, none⟩ = some (.bool bad) :=
  ⟨(cell_of_block h 0).trans rfl, (cell_of_block h 1).trans rfl, (cell_of_block h 2).trans rfl⟩
theorem OB.free (h : OB w b s c bad) (q : Nat) : w.frozen? ⟨b, q, none⟩ = false := by
  unfold OB at h
  simp [World.frozen?, h]
theorem OB.called (h : OB w b s c bad) (hb : Below w.heap.size w w') : OB w' b s c bad := (hb.block b h.lt).trans h
theorem OB.turn (h : OB w b s c bad) (x : Bool) : OB (w.setCell ⟨b, 2, none⟩ (.bool x)) b s c x := by
  have := block_setCell (i := 2) h (.bool x)
  unfold OB
  simpa using this
theorem OB.out (h : OB w b s c bad) (t : ByteArray) (k : Int) : OB ((w.setCell ⟨b, 0, none⟩ (.string t)).setCell ⟨b, 1, none⟩ (.int .i64 k)) b t k bad := by
  have h0 := block_setCell (i := 0) h (.string t)
  have h1 := block_setCell (i := 1) h0 (.int .i64 k)
  unfold OB
  simpa using h1
theorem OB.other (h : OB w b s c bad) {g : Nat} (hg : b ≠ g) (i : Nat) (v : Value) : OB (w.setCell ⟨g, i, none⟩ v) b s c bad := by
  unfold OB at h ⊢
  rw [← h]
  simp [World.setCell, Array.getElem?_modify, Ne.symm hg]
theorem bgrown_called (hb : Below w.heap.size w w') (row : Option Nat) : w.grownBy w' row := ⟨hb.os, hb.tape, hb.output, hb.size, fun k hk _ => hb.block k hk⟩
theorem bgrown_cell (w : World) (b o : Nat) (v : Value) : w.grownBy (w.setCell ⟨b, o, none⟩ v) (some b) :=
  ⟨rfl, rfl, rfl, by simp [World.setCell], fun i _ hi => by simp [World.setCell, Array.getElem?_modify, show ¬ b = i from fun e => hi (by rw [e])]⟩
/-- A cell of a block that wasn't there turns. -/
theorem bgrown_new {w w' : World} {row : Option Nat} (h : w.grownBy w' row) {g : Nat} (hg : w.heap.size ≤ g) (o : Nat) (v : Value) : w.grownBy (w'.setCell ⟨g, o, none⟩ v) row :=
  ⟨h.os, h.tape, h.output, by simpa [World.setCell] using h.size, fun i hi hr => by rw [← h.block i hi hr]; simp [World.setCell, Array.getElem?_modify, show ¬ g = i by omega]⟩
end

/-- The record, as what is told by it: a right Out, or none. -/
def OS (w : World) (b : Nat) (st : Option (ByteArray × Nat)) : Prop := ∃ s c, OB w b s c st.isNone ∧ ∀ o, st = some o → s = o.1 ∧ c = (o.2 : Int) ∧ outB o.1 o.2 = true
theorem OS.called {w w' : World} {b : Nat} {st : Option (ByteArray × Nat)} (h : OS w b st) (hb : Below w.heap.size w w') : OS w' b st := by
  obtain ⟨s, c, h1, h2⟩ := h
  exact ⟨s, c, h1.called hb, h2⟩

theorem OS.put {w w1 : World} {b : Nat} {s T : ByteArray} {k n : Nat} {B : Option (ByteArray × Nat)} (h : OB w1 b s (k : Int) false ∧ w.grownBy w1 (some b)) (hl : b < w.heap.size) (e : B = some (T, k + n)) (ho : outB T ((k + n : Nat) : Int) = true) :
    OS (((((w1.setCell ⟨w.heap.size, 0, none⟩ (.string T)).setCell ⟨w.heap.size, 1, none⟩ (.int .i64 ((k : Int) + (n : Int)))).setCell ⟨b, 2, none⟩ (.bool false)).setCell ⟨b, 0, none⟩ (.string T)).setCell ⟨b, 1, none⟩ (.int .i64 ((k : Int) + (n : Int)))) b B
    ∧ w.grownBy (((((w1.setCell ⟨w.heap.size, 0, none⟩ (.string T)).setCell ⟨w.heap.size, 1, none⟩ (.int .i64 ((k : Int) + (n : Int)))).setCell ⟨b, 2, none⟩ (.bool false)).setCell ⟨b, 0, none⟩ (.string T)).setCell ⟨b, 1, none⟩ (.int .i64 ((k : Int) + (n : Int)))) (some b) := by
  obtain ⟨h1, h2⟩ := h
  have hne : b ≠ w.heap.size := by omega
  subst e
  refine ⟨⟨T, (k : Int) + (n : Int), ((((h1.other hne 0 _).other hne 1 _).turn false).out T _), fun o ho' => ?_⟩, ?_⟩
  · cases ho'
    exact ⟨rfl, by omega, ho⟩
  · exact ((((bgrown_new (bgrown_new h2 (Nat.le_refl _) 0 _) (Nat.le_refl _) 1 _).trans (bgrown_cell _ b 2 _)).trans (bgrown_cell _ b 0 _))).trans (bgrown_cell _ b 1 _)
theorem OS.fail {w w1 : World} {b : Nat} {s : ByteArray} {c : Int} {B : Option (ByteArray × Nat)} (h : OB w1 b s c false ∧ w.grownBy w1 (some b)) (hl : b < w.heap.size) (e : B = none) :
    OS (((w1.setCell ⟨w.heap.size, 0, none⟩ (.string ⟨#[]⟩)).setCell ⟨w.heap.size, 1, none⟩ (.int .i64 0)).setCell ⟨b, 2, none⟩ (.bool true)) b B
    ∧ w.grownBy (((w1.setCell ⟨w.heap.size, 0, none⟩ (.string ⟨#[]⟩)).setCell ⟨w.heap.size, 1, none⟩ (.int .i64 0)).setCell ⟨b, 2, none⟩ (.bool true)) (some b) := by
  obtain ⟨h1, h2⟩ := h
  have hne : b ≠ w.heap.size := by omega
  subst e
  refine ⟨⟨s, c, ((h1.other hne 0 _).other hne 1 _).turn true, fun o ho' => by cases ho'⟩, ?_⟩
  exact (bgrown_new (bgrown_new h2 (Nat.le_refl _) 0 _) (Nat.le_refl _) 1 _).trans (bgrown_cell _ b 2 _)

set_option maxRecDepth 100000 in
set_option maxHeartbeats 3200000 in
theorem l09Put_any (b : Nat) (st : Option (ByteArray × Nat)) (x : Int) (n : Nat) (high : Bool) (w : World) (h : OS w b st) (h0 : 0 ≤ x) (h1 : x < p2 n) (hn : n ≤ 24) :
    Calls Tryz.prog 23 #[.pointer (some ⟨b, 0, none⟩), .int .i64 x, .int .i64 (n : Int), .bool high] w fun e w' => e = .returned (.tuple #[]) ∧ OS w' b (st.bind fun o => bitsOut o (pieceBits x n high)) ∧ w.grownBy w' (some b) := by
  obtain ⟨s, c, hO, hs⟩ := h
  obtain ⟨c0, c1, c2⟩ := hO.cells
  have hl := hO.lt
  have HO := hid_of hO
  cases st with
  | none =>
    simp only [Option.isNone_none] at c2 HO
    have HE : Hid (OS w b ((none : Option (ByteArray × Nat)).bind fun o => bitsOut o (pieceBits x n high))) := ⟨s, c, HO.out, fun o h => by cases h⟩
    clear hO hs c0 c1
    go_enter Tryz.func23, Tryz.ntmps23
    go_wp2_with fail
    refine bodyPost_ret (v := .tuple #[]) (by simp [results, Tryz.results23, go_sem]) rfl ?_
    exact ⟨rfl, HE.out, bgrown_called (Below.refl _ _) _⟩
  | some o =>
    obtain ⟨t, k⟩ := o
    obtain ⟨rfl, rfl, hout⟩ := hs _ rfl
    simp only [Option.isNone_some] at c2 HO
    show Calls _ _ _ _ fun e w' => e = .returned (.tuple #[]) ∧ OS w' b (bitsOut (s, k) (pieceBits x n high)) ∧ w.grownBy w' (some b)
    clear hO hs
    have hk := fits_of_outB s (k : Int) hout
    by_cases hr : k + n ≤ 96000
    · have hM : May s (k : Int) x (n : Int) := ⟨hout, by omega, by omega, h0, by rw [Int.toNat_natCast]; exact h1, by omega⟩
      have HP : Hid (bitsOut (s, k) (pieceBits x n high) = some (strOfNums (putB (numsOf s) k (pieceBits x n high)), k + n)) := by
        have := bitsOut_some (bs := pieceBits x n high) hout (by rw [pieceBits_length]; exact hr)
        rw [pieceBits_length] at this
        exact this
      have HQ : Hid (outB (strOfNums (putB (numsOf s) k (pieceBits x n high))) ((k + n : Nat) : Int) = true) := (bitsOut_right HP.out (pieceBits_01 x n high)).1
      cases high with
      | false =>
        have hcl := fun w => specPutBits_yes s k x n w hM
        rw [putOut_low] at hcl
        obtain ⟨T, hT⟩ : ∃ T, T = strOfNums (putB (numsOf s) k (pieceBits x n false)) := ⟨_, rfl⟩
        rw [← hT] at hcl HP HQ
        clear hT hM h0 h1 hk
        go_enter Tryz.func23, Tryz.ntmps23
        go_wp2_with fail
        refine (hcl _).mono ?_
        rintro e w1 ⟨rfl, hB1⟩
        clear hcl
        have h1 : OB w1 b s (k : Int) false := (HO.out.called (bstart w (.cells #[.string ⟨#[]⟩, .int .i64 0] 27))).called hB1
        have hx : w1.heap[w.heap.size]? = some (.cells #[.string ⟨#[]⟩, .int .i64 0] 27 (0, 0)) := (hB1.block _ (by simp)).trans (heap_alloc_new w _)
        obtain ⟨d0, d1, d2⟩ := h1.cells
        have df := h1.free
        have hl1 := h1.lt
        have x0 : w1.cell? ⟨w.heap.size, 0, none⟩ = some (.string ⟨#[]⟩) := (cell_of_block hx 0).trans rfl
        have x1 : w1.cell? ⟨w.heap.size, 1, none⟩ = some (.int .i64 0) := (cell_of_block hx 1).trans rfl
        have xf : ∀ q, w1.frozen? ⟨w.heap.size, q, none⟩ = false := fun q => by simp [World.frozen?, hx]
        have xl : w.heap.size < w1.heap.size := block_lt hx
        have hne : b ≠ w.heap.size := by omega
        have hne' : w.heap.size ≠ b := by omega
        have HB1 : Hid (OB w1 b s (k : Int) false ∧ w.grownBy w1 (some b)) := ⟨h1, bgrown_called (bnext (bstart w (.cells #[.string ⟨#[]⟩, .int .i64 0] 27)) hB1) _⟩
        clear hB1 h1 hx c0 c1 c2
        go_wp2_with fail
        go_end0
        exact ⟨rfl, OS.put HB1.out hl HP.out HQ.out⟩
      | true =>
        have hcl := fun w => specPutCode_yes s k x n w hM
        rw [putOut_high] at hcl
        obtain ⟨T, hT⟩ : ∃ T, T = strOfNums (putB (numsOf s) k (pieceBits x n true)) := ⟨_, rfl⟩
        rw [← hT] at hcl HP HQ
        clear hT hM h0 h1 hk
        go_enter Tryz.func23, Tryz.ntmps23
        go_wp2_with fail
        refine (hcl _).mono ?_
        rintro e w1 ⟨rfl, hB1⟩
        clear hcl
        have h1 : OB w1 b s (k : Int) false := (HO.out.called (bstart w (.cells #[.string ⟨#[]⟩, .int .i64 0] 27))).called hB1
        have hx : w1.heap[w.heap.size]? = some (.cells #[.string ⟨#[]⟩, .int .i64 0] 27 (0, 0)) := (hB1.block _ (by simp)).trans (heap_alloc_new w _)
        obtain ⟨d0, d1, d2⟩ := h1.cells
        have df := h1.free
        have hl1 := h1.lt
        have x0 : w1.cell? ⟨w.heap.size, 0, none⟩ = some (.string ⟨#[]⟩) := (cell_of_block hx 0).trans rfl
        have x1 : w1.cell? ⟨w.heap.size, 1, none⟩ = some (.int .i64 0) := (cell_of_block hx 1).trans rfl
        have xf : ∀ q, w1.frozen? ⟨w.heap.size, q, none⟩ = false := fun q => by simp [World.frozen?, hx]
        have xl : w.heap.size < w1.heap.size := block_lt hx
        have hne : b ≠ w.heap.size := by omega
        have hne' : w.heap.size ≠ b := by omega
        have HB1 : Hid (OB w1 b s (k : Int) false ∧ w.grownBy w1 (some b)) := ⟨h1, bgrown_called (bnext (bstart w (.cells #[.string ⟨#[]⟩, .int .i64 0] 27)) hB1) _⟩
        clear hB1 h1 hx c0 c1 c2
        go_wp2_with fail
        go_end0
        exact ⟨rfl, OS.put HB1.out hl HP.out HQ.out⟩
    · have hM : ¬ May s (k : Int) x (n : Int) := fun h => hr (by have := h.2.2.2.2.2; omega)
      have HP : Hid (bitsOut (s, k) (pieceBits x n high) = none) := bitsOut_none (fun h => hr (by have := h.2; rwa [pieceBits_length] at this))
      cases high with
      | false =>
        have hcl := fun w => specPutBits_no s k x n w (by unfold maxLen; have := hk.1; omega) (by omega) (by have := hk.1; have := hk.2.2.1; omega) hM
        clear hM h0 h1 hk
        go_enter Tryz.func23, Tryz.ntmps23
        go_wp2_with fail
        refine (hcl _).mono ?_
        rintro e w1 ⟨rfl, hB1⟩
        clear hcl
        have h1 : OB w1 b s (k : Int) false := (HO.out.called (bstart w (.cells #[.string ⟨#[]⟩, .int .i64 0] 27))).called hB1
        have hx : w1.heap[w.heap.size]? = some (.cells #[.string ⟨#[]⟩, .int .i64 0] 27 (0, 0)) := (hB1.block _ (by simp)).trans (heap_alloc_new w _)
        obtain ⟨d0, d1, d2⟩ := h1.cells
        have df := h1.free
        have hl1 := h1.lt
        have x0 : w1.cell? ⟨w.heap.size, 0, none⟩ = some (.string ⟨#[]⟩) := (cell_of_block hx 0).trans rfl
        have x1 : w1.cell? ⟨w.heap.size, 1, none⟩ = some (.int .i64 0) := (cell_of_block hx 1).trans rfl
        have xf : ∀ q, w1.frozen? ⟨w.heap.size, q, none⟩ = false := fun q => by simp [World.frozen?, hx]
        have xl : w.heap.size < w1.heap.size := block_lt hx
        have hne : b ≠ w.heap.size := by omega
        have hne' : w.heap.size ≠ b := by omega
        have HB1 : Hid (OB w1 b s (k : Int) false ∧ w.grownBy w1 (some b)) := ⟨h1, bgrown_called (bnext (bstart w (.cells #[.string ⟨#[]⟩, .int .i64 0] 27)) hB1) _⟩
        clear hB1 h1 hx c0 c1 c2
        go_wp2_with fail
        go_end0
        exact ⟨rfl, OS.fail HB1.out hl HP.out⟩
      | true =>
        have hcl := fun w => specPutCode_no s k x n w (by unfold maxLen; have := hk.1; omega) (by omega) (by have := hk.1; have := hk.2.2.1; omega) hM
        clear hM h0 h1 hk
        go_enter Tryz.func23, Tryz.ntmps23
        go_wp2_with fail
        refine (hcl _).mono ?_
        rintro e w1 ⟨rfl, hB1⟩
        clear hcl
        have h1 : OB w1 b s (k : Int) false := (HO.out.called (bstart w (.cells #[.string ⟨#[]⟩, .int .i64 0] 27))).called hB1
        have hx : w1.heap[w.heap.size]? = some (.cells #[.string ⟨#[]⟩, .int .i64 0] 27 (0, 0)) := (hB1.block _ (by simp)).trans (heap_alloc_new w _)
        obtain ⟨d0, d1, d2⟩ := h1.cells
        have df := h1.free
        have hl1 := h1.lt
        have x0 : w1.cell? ⟨w.heap.size, 0, none⟩ = some (.string ⟨#[]⟩) := (cell_of_block hx 0).trans rfl
        have x1 : w1.cell? ⟨w.heap.size, 1, none⟩ = some (.int .i64 0) := (cell_of_block hx 1).trans rfl
        have xf : ∀ q, w1.frozen? ⟨w.heap.size, q, none⟩ = false := fun q => by simp [World.frozen?, hx]
        have xl : w.heap.size < w1.heap.size := block_lt hx
        have hne : b ≠ w.heap.size := by omega
        have hne' : w.heap.size ≠ b := by omega
        have HB1 : Hid (OB w1 b s (k : Int) false ∧ w.grownBy w1 (some b)) := ⟨h1, bgrown_called (bnext (bstart w (.cells #[.string ⟨#[]⟩, .int .i64 0] 27)) hB1) _⟩
        clear hB1 h1 hx c0 c1 c2
        go_wp2_with fail
        go_end0
        exact ⟨rfl, OS.fail HB1.out hl HP.out⟩
end Go.Proofs.YtbcnlggkoidmmabGreatDoor

namespace Go.Proofs.YtbcnlggkoidmmabGreatDoor
open Go.RowKit Go.Joins OutMath BlockMath

theorem outSt_os {w : World} {b : Nat} {s : ByteArray} {c : Int} (h : OB w b s c (!outB s c)) : OS w b (outSt s c) := by
  refine ⟨s, c, by rw [outSt_isNone]; exact h, fun o ho => ?_⟩
  unfold outSt at ho
  split at ho
  · rename_i hb
    cases ho
    have hf := fits_of_outB s c hb
    have e : ((c.toNat : Nat) : Int) = c := Int.toNat_of_nonneg hf.2.1
    exact ⟨rfl, e.symm, by show outB s ((c.toNat : Nat) : Int) = true; rw [e]; exact hb⟩
  · cases ho
theorem heap_two (w : World) (A B : Obj) : ((w.alloc A).alloc B).heap[w.heap.size]? = some A := by
  show ((w.heap.push A).push B)[w.heap.size]? = some A
  rw [Array.getElem?_push_lt (by rw [Array.size_push]; omega), Array.getElem_push_eq]
theorem heap_three (w : World) (A B C : Obj) : (((w.alloc A).alloc B).alloc C).heap[w.heap.size]? = some A := by
  show (((w.heap.push A).push B).push C)[w.heap.size]? = some A
  rw [Array.getElem?_push_lt (by rw [Array.size_push, Array.size_push]; omega), Array.getElem_push_lt (by rw [Array.size_push]; omega), Array.getElem_push_eq]
theorem heap_third (w : World) (A B C : Obj) : (((w.alloc A).alloc B).alloc C).heap[w.heap.size + 1 + 1]? = some C := by
  show (((w.heap.push A).push B).push C)[w.heap.size + 1 + 1]? = some C
  have e : w.heap.size + 1 + 1 = ((w.heap.push A).push B).size := by rw [Array.size_push, Array.size_push]
  rw [e, Array.getElem?_push_size]
theorem heap_second2 (w : World) (A B : Obj) : ((w.alloc A).alloc B).heap[w.heap.size + 1]? = some B := by
  show ((w.heap.push A).push B)[w.heap.size + 1]? = some B
  have e : w.heap.size + 1 = (w.heap.push A).size := by rw [Array.size_push]
  rw [e, Array.getElem?_push_size]
theorem heap_second3 (w : World) (A B C : Obj) : (((w.alloc A).alloc B).alloc C).heap[w.heap.size + 1]? = some B := by
  show (((w.heap.push A).push B).push C)[w.heap.size + 1]? = some B
  have e : w.heap.size + 1 = (w.heap.push A).size := by rw [Array.size_push]
  rw [Array.getElem?_push_lt (by rw [Array.size_push, Array.size_push]; omega)]
  simp only [e, Array.getElem_push_eq]
/-- The record is made: it lies in block B, and the answer's own cell lies behind the first box. -/
def HD (w X : World) (B : Nat) (s : ByteArray) (c : Int) : Prop := Below w.heap.size w X ∧ OB X B s c (!outB s c) ∧ X.heap[w.heap.size + 1]? = some (.cells #[.string ⟨#[]⟩, .int .i64 0, .bool false] 45 (0, 0)) ∧ w.heap.size + 1 ≠ B ∧ w.heap.size ≤ B
theorem hd_alloc {w w' : World} (s : ByteArray) (c : Int) (HW : Below w.heap.size w w') (HZ : w'.heap[w.heap.size + 1]? = some (.cells #[.string ⟨#[]⟩, .int .i64 0, .bool false] 45 (0, 0))) : HD w (w'.alloc (.cells #[.string s, .int .i64 c, .bool (!outB s c)] 45)) w'.heap.size s c := by
  have hl := block_lt HZ
  exact ⟨bal HW _, heap_alloc_new w' _, ((bstart w' _).block _ hl).trans HZ, by omega, HW.size⟩
theorem hd_set {w w' : World} (s : ByteArray) (c : Int) (HW : Below w.heap.size w w') (HZ : w'.heap[w.heap.size + 1]? = some (.cells #[.string ⟨#[]⟩, .int .i64 0, .bool false] 45 (0, 0))) (HY : w'.heap[w.heap.size + 1 + 1]? = some (.cells #[.string ⟨#[]⟩, .int .i64 0, .bool false] 45 (0, 0))) :
    HD w (((w'.setCell ⟨w.heap.size + 1 + 1, 0, none⟩ (.string s)).setCell ⟨w.heap.size + 1 + 1, 1, none⟩ (.int .i64 c)).setCell ⟨w.heap.size + 1 + 1, 2, none⟩ (.bool (!outB s c))) (w.heap.size + 1 + 1) s c := by
  have h0 : OB w' (w.heap.size + 1 + 1) ⟨#[]⟩ 0 false := HY
  have hs : w.heap.size ≤ w.heap.size + 1 + 1 := by omega
  refine ⟨Below.setCell (p := ⟨_, 2, none⟩) (two_below HW hs _ _) hs _, (h0.out s c).turn _, ?_, by omega, hs⟩
  rw [← HZ]
  simp [World.setCell, Array.getElem?_modify]
theorem lay_called {X w' : World} {g : Nat} {o : Obj} (hB : Below X.heap.size X w') (h : X.heap[g]? = some o) : w'.heap[g]? = some o := (hB.block g (block_lt h)).trans h
set_option maxRecDepth 100000 in
set_option maxHeartbeats 3200000 in
theorem specHead (s : ByteArray) (c : Int) (kind : Nat) (last : Bool) (w : World) (hs : s.size ≤ maxLen) (hc1 : -9223372036854775808 ≤ c) (hc2 : c ≤ 9223372036854775807) (hk : kind ≤ 3) :
    Calls Tryz.prog 21 #[.agg #[.string s, .int .i64 c], .int .i64 (kind : Int), .bool last] w fun e w' => ∃ s' c', e = .returned (.agg #[.string s', .int .i64 c', .bool ((outSt s c).bind fun o => bitsOut o (headBits kind last)).isNone]) ∧ (∀ o, ((outSt s c).bind fun o => bitsOut o (headBits kind last)) = some o → s' = o.1 ∧ c' = (o.2 : Int) ∧ outB o.1 o.2 = true) ∧ Below w.heap.size w w' := by
  have hO := fun w => specOut_any s c w hs hc1 hc2
  go_enter Tryz.func21, Tryz.ntmps21
  go_wp2_with fail
  go_region_with (go_at_call 44; refine (hO _).mono ?_; rintro e w' ⟨rfl, hB⟩; have X0 := lay_called (g := w.heap.size) (o := .cells #[.string s, .int .i64 c] 27 (0, 0)) hB (by first | exact heap_two w _ _ | exact heap_three w _ _ _); have x0 : w'.cell? ⟨w.heap.size, 0, none⟩ = some (.string s) := (cell_of_block X0 0).trans rfl; have x1 : w'.cell? ⟨w.heap.size, 1, none⟩ = some (.int .i64 c) := (cell_of_block X0 1).trans rfl; have xl : w.heap.size < w'.heap.size := block_lt X0; (first | (have Y0 := lay_called (g := w.heap.size + 1 + 1) (o := .cells #[.string ⟨#[]⟩, .int .i64 0, .bool false] 45 (0, 0)) hB (by exact heap_third w _ _ _); have y0 : w'.cell? ⟨w.heap.size + 1 + 1, 0, none⟩ = some (.string ⟨#[]⟩) := (cell_of_block Y0 0).trans rfl; have y1 : w'.cell? ⟨w.heap.size + 1 + 1, 1, none⟩ = some (.int .i64 0) := (cell_of_block Y0 1).trans rfl; have y2 : w'.cell? ⟨w.heap.size + 1 + 1, 2, none⟩ = some (.bool false) := (cell_of_block Y0 2).trans rfl; have yf : ∀ q, w'.frozen? ⟨w.heap.size + 1 + 1, q, none⟩ = false := (fun q => by simp [World.frozen?, Y0]); have yl : w.heap.size + 1 + 1 < w'.heap.size := block_lt Y0; have HY := hid_of Y0; clear Y0) | skip); have HZ := hid_of (lay_called (g := w.heap.size + 1) (o := .cells #[.string ⟨#[]⟩, .int .i64 0, .bool false] 45 (0, 0)) hB (by first | exact heap_second2 w _ _ | exact heap_second3 w _ _ _)); have HW : Hid (Below w.heap.size w w') := bnext (by first | exact bdraws (bal (bstart w _) _) 1 | exact bdraws (bal (bal (bstart w _) _) _) 1) hB; clear X0 hB)
  all_goals
    first
    | (have HH := hid_of (hd_set s c HW.out HZ.out HY.out)
       clear HW HZ HY y0 y1 y2 yf yl x0 x1 xl
       generalize ((w'.setCell ⟨w.heap.size + 1 + 1, 0, none⟩ (.string s)).setCell ⟨w.heap.size + 1 + 1, 1, none⟩ (.int .i64 c)).setCell ⟨w.heap.size + 1 + 1, 2, none⟩ (.bool (!outB s c)) = X at HH ⊢
       generalize w.heap.size + 1 + 1 = B at HH ⊢)
    | (have HH := hid_of (hd_alloc s c HW.out HZ.out)
       clear HW HZ x0 x1 xl
       generalize w'.alloc (.cells #[.string s, .int .i64 c, .bool (!outB s c)] 45) = X at HH ⊢
       generalize w'.heap.size = B at HH ⊢)
  all_goals
    clear hO
    have hlt : kind < 4 := by omega
    cases last
    all_goals
      go_wp2_with fail
      refine (l09Put_any B (outSt s c) _ 1 false X (outSt_os HH.out.2.1) (by omega) (by simp [p2]) (by omega)).mono ?_
      rintro e w2 ⟨rfl, hO2, hg2⟩
      have HO2 := hid_of (And.intro hO2 hg2)
      clear hO2 hg2
      go_wp2_with fail
      refine (l09Put_any B _ (kind : Int) 2 false w2 HO2.out.1 (by omega) (by simp [p2]; omega) (by omega)).mono ?_
      rintro e w3 ⟨rfl, hO3, hg3⟩
      rw [bind_bits _ _ (pieceBits_01 _ _ _)] at hO3
      obtain ⟨s', c', hb3, hst⟩ := hO3
      generalize hbad : Option.isNone _ = bad at hb3
      have HBAD := hid_of hbad
      clear hbad
      have HE : Hid (Below w.heap.size w w3) := HH.out.1.grown (HO2.out.2.trans hg3) HH.out.1.size (fun k hk => by cases hk; exact HH.out.2.2.2.2)
      have hr : w3.heap[w.heap.size + 1]? = some (.cells #[.string ⟨#[]⟩, .int .i64 0, .bool false] 45 (0, 0)) := ((HO2.out.2.trans hg3).block _ (block_lt HH.out.2.2.1) (fun e => HH.out.2.2.2.1 (Option.some.inj e))).trans HH.out.2.2.1
      have hne : w.heap.size + 1 ≠ B := HH.out.2.2.2.1
      obtain ⟨d0, d1, d2⟩ := hb3.cells
      have r0 : w3.cell? ⟨w.heap.size + 1, 0, none⟩ = some (.string ⟨#[]⟩) := (cell_of_block hr 0).trans rfl
      have r1 : w3.cell? ⟨w.heap.size + 1, 1, none⟩ = some (.int .i64 0) := (cell_of_block hr 1).trans rfl
      have r2 : w3.cell? ⟨w.heap.size + 1, 2, none⟩ = some (.bool false) := (cell_of_block hr 2).trans rfl
      have rf : ∀ q, w3.frozen? ⟨w.heap.size + 1, q, none⟩ = false := fun q => by simp [World.frozen?, hr]
      have rl := block_lt hr
      have HST := hid_of hst
      clear hr hb3 HO2 HH hg3 hst
      go_wp2_with fail
      refine bodyPost_ret (v := .agg #[.string s', .int .i64 c', .bool bad]) ?_ rfl ?_
      · simp [results, Tryz.results21, go_sem, r0, r1, r2]
      · exact ⟨s', c', by rw [← HBAD.out]; rfl, HST.out, Below.setCell (p := ⟨_, 2, none⟩) (two_below HE.out (Nat.le_succ _) _ _) (Nat.le_succ _) _⟩
end Go.Proofs.YtbcnlggkoidmmabGreatDoor

namespace Go.Proofs.YtbcnlggkoidmmabGreatDoor
open Go.RowKit Go.Joins OutMath

set_option maxHeartbeats 400000 in
theorem specFill_yes (s : ByteArray) (c : Int) (w : World) (hs : s.size ≤ maxLen) (hc1 : -9223372036854775808 ≤ c) (hc2 : c ≤ 9223372036854775807) (h : outB s c = true) :
    Calls Tryz.prog 22 #[.agg #[.string s, .int .i64 c]] w fun e w' => e = .returned (.tuple #[.agg #[.string s, .int .i64 (8 * s.size)], .bool true]) ∧ Below w.heap.size w w' := by
  have hq := fits_of_outB s c h
  obtain ⟨q1, q2, q3, q4⟩ := hq
  clear q4
  go_enter Tryz.func22, Tryz.ntmps22
  go_wp2_with fail
  refine (specOut_any s c _ hs hc1 hc2).mono ?_
  rintro e w1 ⟨rfl, hb1⟩
  obtain ⟨k1, f1⟩ := bcell hb1
  have hz : w.heap.size + 1 < w1.heap.size := by have := hb1.size; simp at this; omega
  go_wp2_with fail
  refine bodyPost_ret (v := .tuple #[.agg #[.string s, .int .i64 (8 * s.size)], .bool true]) (by simp [results, Tryz.results22, go_sem, k1]) rfl ⟨rfl, ?_⟩
  refine Below.setCell (Below.setCell ((below_alloc2 w _ _).trans (hb1.mono ?_)) ?_ _) ?_ _
  · simp; omega
  · simp
  · simp

end Go.Proofs.YtbcnlggkoidmmabGreatDoor
