/-
  Bits under way in the document's model of blocks: the record, how a number is put.
-/
import Derived.Test.YtbcnlggkoidmmaaRows
import Derived.Test.YtbcnlggkoidmmaaPk01
import Derived.Test.YtbcnlggkoidmmaaPk02
import Derived.Test.YtbcnlggkoidmmaaPk15
import Derived.Test.YtbcnlggkoidmmaaPk04
import Derived.WalkKit
import Derived.ProofKit
import Derived.WalkLawsBesides
import Derived.Below
import Derived.Laws.AppendOwn
import Derived.Maps.AppendAt
import Derived.Lib.SmallJoins
namespace Go.Proofs.Ytbcnlggkoidmmaa
open Go.RowKit Go.Joins OutMath BlockMath

/-- The record of bits under way lies in block b. -/
def OB (w : World) (b : Nat) (s : ByteArray) (c : Int) (bad : Bool) : Prop := w.heap[b]? = some (.cells #[.string s, .int .i64 c, .bool bad] 61 (0, 0))
section
variable {w w' : World} {b : Nat} {s : ByteArray} {c : Int} {bad : Bool}
theorem OB.lt (h : OB w b s c bad) : b < w.heap.size := block_lt h
theorem OB.cells (h : OB w b s c bad) : w.cell? ⟨b, 0, none⟩ = some (.string s) ∧ w.cell? ⟨b, 1, none⟩ = some (.int .i64 c) ∧ w.cell? ⟨b, 2, none⟩ = some (.bool bad) :=
  ⟨(cell_of_block h 0).trans rfl, (cell_of_block h 1).trans rfl, (cell_of_block h 2).trans rfl⟩
theorem OB.free (h : OB w b s c bad) (q : Nat) : w.frozen? ⟨b, q, none⟩ = false := by
  unfold OB at h
  simp [World.frozen?, h]
theorem OB.called (h : OB w b s c bad) (hb : Below w.heap.size w w') : OB w' b s c bad := (hb.block b h.lt).trans h
theorem OB.turn (h : OB w b s c bad) (x : Bool) : OB (w.setCell ⟨b, 2, none⟩ (.bool x)) b s c x := by
  have := block_setCell (i := 2) h (.bool x)
  unfold OB
  simpa using this
theorem OB.out (h : OB w b s c bad) (t : ByteArray) (k : Int) : OB ((w.setCell ⟨b, 0, none⟩ (.string t)).setCell ⟨b, 1, none⟩ (.int .i64 k)) b t k bad := by
  have h0 := block_setCell (i := 0) h (.string t)
  have h1 := block_setCell (i := 1) h0 (.int .i64 k)
  unfold OB
  simpa using h1
theorem OB.other (h : OB w b s c bad) {g : Nat} (hg : b ≠ g) (i : Nat) (v : Value) : OB (w.setCell ⟨g, i, none⟩ v) b s c bad := by
  unfold OB at h ⊢
  rw [← h]
  simp [World.setCell, Array.getElem?_modify, Ne.symm hg]
theorem bgrown_called (hb : Below w.heap.size w w') (row : Option Nat) : w.grownBy w' row := ⟨hb.os, hb.tape, hb.output, hb.size, fun k hk _ => hb.block k hk⟩
theorem bgrown_cell (w : World) (b o : Nat) (v : Value) : w.grownBy (w.setCell ⟨b, o, none⟩ v) (some b) :=
  ⟨rfl, rfl, rfl, by simp [World.setCell], fun i _ hi => by simp [World.setCell, Array.getElem?_modify, show ¬ b = i from fun e => hi (by rw [e])]⟩
/-- A cell of a block that wasn't there turns. -/
theorem bgrown_new {w w' : World} {row : Option Nat} (h : w.grownBy w' row) {g : Nat} (hg : w.heap.size ≤ g) (o : Nat) (v : Value) : w.grownBy (w'.setCell ⟨g, o, none⟩ v) row :=
  ⟨h.os, h.tape, h.output, by simpa [World.setCell] using h.size, fun i hi hr => by rw [← h.block i hi hr]; simp [World.setCell, Array.getElem?_modify, show ¬ g = i by omega]⟩
end

/-- The record, as what is told by it: a right Out, or none. -/
def OS (w : World) (b : Nat) (st : Option (ByteArray × Nat)) : Prop := ∃ s c, OB w b s c st.isNone ∧ ∀ o, st = some o → s = o.1 ∧ c = (o.2 : Int) ∧ outB o.1 o.2 = true
theorem OS.called {w w' : World} {b : Nat} {st : Option (ByteArray × Nat)} (h : OS w b st) (hb : Below w.heap.size w w') : OS w' b st := by
  obtain ⟨s, c, h1, h2⟩ := h
  exact ⟨s, c, h1.called hb, h2⟩

theorem OS.put {w w1 : World} {b : Nat} {s T : ByteArray} {k n : Nat} {B : Option (ByteArray × Nat)} (h : OB w1 b s (k : Int) false ∧ w.grownBy w1 (some b)) (hl : b < w.heap.size) (e : B = some (T, k + n)) (ho : outB T ((k + n : Nat) : Int) = true) :
    OS (((((w1.setCell ⟨w.heap.size, 0, none⟩ (.string T)).setCell ⟨w.heap.size, 1, none⟩ (.int .i64 ((k : Int) + (n : Int)))).setCell ⟨b, 2, none⟩ (.bool false)).setCell ⟨b, 0, none⟩ (.string T)).setCell ⟨b, 1, none⟩ (.int .i64 ((k : Int) + (n : Int)))) b B
    ∧ w.grownBy (((((w1.setCell ⟨w.heap.size, 0, none⟩ (.string T)).setCell ⟨w.heap.size, 1, none⟩ (.int .i64 ((k : Int) + (n : Int)))).setCell ⟨b, 2, none⟩ (.bool false)).setCell ⟨b, 0, none⟩ (.string T)).setCell ⟨b, 1, none⟩ (.int .i64 ((k : Int) + (n : Int)))) (some b) := by
  obtain ⟨h1, h2⟩ := h
  have hne : b ≠ w.heap.size := by omega
  subst e
  refine ⟨⟨T, (k : Int) + (n : Int), ((((h1.other hne 0 _).other hne 1 _).turn false).out T _), fun o ho' => ?_⟩, ?_⟩
  · cases ho'
    exact ⟨rfl, by omega, ho⟩
  · exact ((((bgrown_new (bgrown_new h2 (Nat.le_refl _) 0 _) (Nat.le_refl _) 1 _).trans (bgrown_cell _ b 2 _)).trans (bgrown_cell _ b 0 _))).trans (bgrown_cell _ b 1 _)
theorem OS.fail {w w1 : World} {b : Nat} {s : ByteArray} {c : Int} {B : Option (ByteArray × Nat)} (h : OB w1 b s c false ∧ w.grownBy w1 (some b)) (hl : b < w.heap.size) (e : B = none) :
    OS (((w1.setCell ⟨w.heap.size, 0, none⟩ (.string ⟨#[]⟩)).setCell ⟨w.heap.size, 1, none⟩ (.int .i64 0)).setCell ⟨b, 2, none⟩ (.bool true)) b B
    ∧ w.grownBy (((w1.setCell ⟨w.heap.size, 0, none⟩ (.string ⟨#[]⟩)).setCell ⟨w.heap.size, 1, none⟩ (.int .i64 0)).setCell ⟨b, 2, none⟩ (.bool true)) (some b) := by
  obtain ⟨h1, h2⟩ := h
  have hne : b ≠ w.heap.size := by omega
  subst e
  refine ⟨⟨s, c, ((h1.other hne 0 _).other hne 1 _).turn true, fun o ho' => by cases ho'⟩, ?_⟩
  exact (bgrown_new (bgrown_new h2 (Nat.le_refl _) 0 _) (Nat.le_refl _) 1 _).trans (bgrown_cell _ b 2 _)

set_option maxRecDepth 100000 in
set_option maxHeartbeats 3200000 in
theorem l09Put_any (b : Nat) (st : Option (ByteArray × Nat)) (x : Int) (n : Nat) (high : Bool) (w : World) (h : OS w b st) (h0 : 0 ≤ x) (h1 : x < p2 n) (hn : n ≤ 24) :
    Calls Try.prog 36 #[.pointer (some ⟨b, 0, none⟩), .int .i64 x, .int .i64 (n : Int), .bool high] w fun e w' => e = .returned (.tuple #[]) ∧ OS w' b (st.bind fun o => bitsOut o (pieceBits x n high)) ∧ w.grownBy w' (some b) := by
  obtain ⟨s, c, hO, hs⟩ := h
  obtain ⟨c0, c1, c2⟩ := hO.cells
  have hl := hO.lt
  have HO := hid_of hO
  cases st with
  | none =>
    simp only [Option.isNone_none] at c2 HO
    have HE : Hid (OS w b ((none : Option (ByteArray × Nat)).bind fun o => bitsOut o (pieceBits x n high))) := ⟨s, c, HO.out, fun o h => by cases h⟩
    clear hO hs c0 c1
    go_enter Try.func36, Try.ntmps36
    go_wp2_with fail
    refine bodyPost_ret (v := .tuple #[]) (by simp [results, Try.results36, go_sem]) rfl ?_
    exact ⟨rfl, HE.out, bgrown_called (Below.refl _ _) _⟩
  | some o =>
    obtain ⟨t, k⟩ := o
    obtain ⟨rfl, rfl, hout⟩ := hs _ rfl
    simp only [Option.isNone_some] at c2 HO
    show Calls _ _ _ _ fun e w' => e = .returned (.tuple #[]) ∧ OS w' b (bitsOut (s, k) (pieceBits x n high)) ∧ w.grownBy w' (some b)
    clear hO hs
    have hk := fits_of_outB s (k : Int) hout
    by_cases hr : k + n ≤ 96000
    · have hM : May s (k : Int) x (n : Int) := ⟨hout, by omega, by omega, h0, by rw [Int.toNat_natCast]; exact h1, by omega⟩
      have HP : Hid (bitsOut (s, k) (pieceBits x n high) = some (strOfNums (putB (numsOf s) k (pieceBits x n high)), k + n)) := by
        have := bitsOut_some (bs := pieceBits x n high) hout (by rw [pieceBits_length]; exact hr)
        rw [pieceBits_length] at this
        exact this
      have HQ : Hid (outB (strOfNums (putB (numsOf s) k (pieceBits x n high))) ((k + n : Nat) : Int) = true) := (bitsOut_right HP.out (pieceBits_01 x n high)).1
      cases high with
      | false =>
        have hcl := fun w => specPutBits_yes s k x n w hM
        rw [putOut_low] at hcl
        obtain ⟨T, hT⟩ : ∃ T, T = strOfNums (putB (numsOf s) k (pieceBits x n false)) := ⟨_, rfl⟩
        rw [← hT] at hcl HP HQ
        clear hT hM h0 h1 hk
        go_enter Try.func36, Try.ntmps36
        go_wp2_with fail
        refine (hcl _).mono ?_
        rintro e w1 ⟨rfl, hB1⟩
        clear hcl
        have h1 : OB w1 b s (k : Int) false := (HO.out.called (bstart w (.cells #[.string ⟨#[]⟩, .int .i64 0] 37))).called hB1
        have hx : w1.heap[w.heap.size]? = some (.cells #[.string ⟨#[]⟩, .int .i64 0] 37 (0, 0)) := (hB1.block _ (by simp)).trans (heap_alloc_new w _)
        obtain ⟨d0, d1, d2⟩ := h1.cells
        have df := h1.free
        have hl1 := h1.lt
        have x0 : w1.cell? ⟨w.heap.size, 0, none⟩ = some (.string ⟨#[]⟩) := (cell_of_block hx 0).trans rfl
        have x1 : w1.cell? ⟨w.heap.size, 1, none⟩ = some (.int .i64 0) := (cell_of_block hx 1).trans rfl
        have xf : ∀ q, w1.frozen? ⟨w.heap.size, q, none⟩ = false := fun q => by simp [World.frozen?, hx]
        have xl : w.heap.size < w1.heap.size := block_lt hx
        have hne : b ≠ w.heap.size := by omega
        have hne' : w.heap.size ≠ b := by omega
        have HB1 : Hid (OB w1 b s (k : Int) false ∧ w.grownBy w1 (some b)) := ⟨h1, bgrown_called (bnext (bstart w (.cells #[.string ⟨#[]⟩, .int .i64 0] 37)) hB1) _⟩
        clear hB1 h1 hx c0 c1 c2
        go_wp2_with fail
        go_end0
        exact ⟨rfl, OS.put HB1.out hl HP.out HQ.out⟩
      | true =>
        have hcl := fun w => specPutCode_yes s k x n w hM
        rw [putOut_high] at hcl
        obtain ⟨T, hT⟩ : ∃ T, T = strOfNums (putB (numsOf s) k (pieceBits x n true)) := ⟨_, rfl⟩
        rw [← hT] at hcl HP HQ
        clear hT hM h0 h1 hk
        go_enter Try.func36, Try.ntmps36
        go_wp2_with fail
        refine (hcl _).mono ?_
        rintro e w1 ⟨rfl, hB1⟩
        clear hcl
        have h1 : OB w1 b s (k : Int) false := (HO.out.called (bstart w (.cells #[.string ⟨#[]⟩, .int .i64 0] 37))).called hB1
        have hx : w1.heap[w.heap.size]? = some (.cells #[.string ⟨#[]⟩, .int .i64 0] 37 (0, 0)) := (hB1.block _ (by simp)).trans (heap_alloc_new w _)
        obtain ⟨d0, d1, d2⟩ := h1.cells
        have df := h1.free
        have hl1 := h1.lt
        have x0 : w1.cell? ⟨w.heap.size, 0, none⟩ = some (.string ⟨#[]⟩) := (cell_of_block hx 0).trans rfl
        have x1 : w1.cell? ⟨w.heap.size, 1, none⟩ = some (.int .i64 0) := (cell_of_block hx 1).trans rfl
        have xf : ∀ q, w1.frozen? ⟨w.heap.size, q, none⟩ = false := fun q => by simp [World.frozen?, hx]
        have xl : w.heap.size < w1.heap.size := block_lt hx
        have hne : b ≠ w.heap.size := by omega
        have hne' : w.heap.size ≠ b := by omega
        have HB1 : Hid (OB w1 b s (k : Int) false ∧ w.grownBy w1 (some b)) := ⟨h1, bgrown_called (bnext (bstart w (.cells #[.string ⟨#[]⟩, .int .i64 0] 37)) hB1) _⟩
        clear hB1 h1 hx c0 c1 c2
        go_wp2_with fail
        go_end0
        exact ⟨rfl, OS.put HB1.out hl HP.out HQ.out⟩
    · have hM : ¬ May s (k : Int) x (n : Int) := fun h => hr (by have := h.2.2.2.2.2; omega)
      have HP : Hid (bitsOut (s, k) (pieceBits x n high) = none) := bitsOut_none (fun h => hr (by have := h.2; rwa [pieceBits_length] at this))
      cases high with
      | false =>
        have hcl := fun w => specPutBits_no s k x n w (by unfold maxLen; have := hk.1; omega) (by omega) (by have := hk.1; have := hk.2.2.1; omega) hM
        clear hM h0 h1 hk
        go_enter Try.func36, Try.ntmps36
        go_wp2_with fail
        refine (hcl _).mono ?_
        rintro e w1 ⟨rfl, hB1⟩
        clear hcl
        have h1 : OB w1 b s (k : Int) false := (HO.out.called (bstart w (.cells #[.string ⟨#[]⟩, .int .i64 0] 37))).called hB1
        have hx : w1.heap[w.heap.size]? = some (.cells #[.string ⟨#[]⟩, .int .i64 0] 37 (0, 0)) := (hB1.block _ (by simp)).trans (heap_alloc_new w _)
        obtain ⟨d0, d1, d2⟩ := h1.cells
        have df := h1.free
        have hl1 := h1.lt
        have x0 : w1.cell? ⟨w.heap.size, 0, none⟩ = some (.string ⟨#[]⟩) := (cell_of_block hx 0).trans rfl
        have x1 : w1.cell? ⟨w.heap.size, 1, none⟩ = some (.int .i64 0) := (cell_of_block hx 1).trans rfl
        have xf : ∀ q, w1.frozen? ⟨w.heap.size, q, none⟩ = false := fun q => by simp [World.frozen?, hx]
        have xl : w.heap.size < w1.heap.size := block_lt hx
        have hne : b ≠ w.heap.size := by omega
        have hne' : w.heap.size ≠ b := by omega
        have HB1 : Hid (OB w1 b s (k : Int) false ∧ w.grownBy w1 (some b)) := ⟨h1, bgrown_called (bnext (bstart w (.cells #[.string ⟨#[]⟩, .int .i64 0] 37)) hB1) _⟩
        clear hB1 h1 hx c0 c1 c2
        go_wp2_with fail
        go_end0
        exact ⟨rfl, OS.fail HB1.out hl HP.out⟩
      | true =>
        have hcl := fun w => specPutCode_no s k x n w (by unfold maxLen; have := hk.1; omega) (by omega) (by have := hk.1; have := hk.2.2.1; omega) hM
        clear hM h0 h1 hk
        go_enter Try.func36, Try.ntmps36
        go_wp2_with fail
        refine (hcl _).mono ?_
        rintro e w1 ⟨rfl, hB1⟩
        clear hcl
        have h1 : OB w1 b s (k : Int) false := (HO.out.called (bstart w (.cells #[.string ⟨#[]⟩, .int .i64 0] 37))).called hB1
        have hx : w1.heap[w.heap.size]? = some (.cells #[.string ⟨#[]⟩, .int .i64 0] 37 (0, 0)) := (hB1.block _ (by simp)).trans (heap_alloc_new w _)
        obtain ⟨d0, d1, d2⟩ := h1.cells
        have df := h1.free
        have hl1 := h1.lt
        have x0 : w1.cell? ⟨w.heap.size, 0, none⟩ = some (.string ⟨#[]⟩) := (cell_of_block hx 0).trans rfl
        have x1 : w1.cell? ⟨w.heap.size, 1, none⟩ = some (.int .i64 0) := (cell_of_block hx 1).trans rfl
        have xf : ∀ q, w1.frozen? ⟨w.heap.size, q, none⟩ = false := fun q => by simp [World.frozen?, hx]
        have xl : w.heap.size < w1.heap.size := block_lt hx
        have hne : b ≠ w.heap.size := by omega
        have hne' : w.heap.size ≠ b := by omega
        have HB1 : Hid (OB w1 b s (k : Int) false ∧ w.grownBy w1 (some b)) := ⟨h1, bgrown_called (bnext (bstart w (.cells #[.string ⟨#[]⟩, .int .i64 0] 37)) hB1) _⟩
        clear hB1 h1 hx c0 c1 c2
        go_wp2_with fail
        go_end0
        exact ⟨rfl, OS.fail HB1.out hl HP.out⟩
end Go.Proofs.Ytbcnlggkoidmmaa
