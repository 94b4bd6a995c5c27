/-
  Bytes of the call's own, by a function: made, stored, and their text.
  Lists of bytes, in plain numbers. Nothing here speaks of the program.
  Texts as lists of numbers, and lists of bytes that a call made itself.
  Filters in plain numbers: what is foretold of a byte, a row filtered and back, weights, the lightest kind (P13). Nothing here speaks of the program.
-/
import Derived.Test.YtcnlcbkgbcnloaaRows
import Derived.Test.YtcnlcbkgbcnloaaHk01
import Derived.Test.YtcnlcbkgbcnloaaHk02
import Derived.Test.YtcnlcbkgbcnloaaHk03
import Derived.Test.YtcnlcbkgbcnloaaHk05
import Derived.Test.YtcnlcbkgbcnloaaHk04
import Derived.WalkKit
import Derived.ProofKit
import Derived.WalkLawsBesides
import Derived.Laws.MakeOwn
import Derived.Below
import Derived.OwnWalk
import Derived.Lib.SmallJoins
namespace Go.Proofs.Ytcnlcbkgbcnloaa
open Go.RowKit Go.Joins TakeMath

theorem info_u812 : (Try.prog.info? 5).map (fun i => (i.zero, i.size, i.bytes)) = some (some (.int .u8 0), 1, 1) := by kernel_rfl
theorem make_bytes12 (w : World) (n : Nat) (hn : n ≤ 16777216) : (Instr.makeSlice 22 (.int .i64 n) (.int .i64 n)).run Try.prog w = .ok (.slice (some ⟨w.heap.size, 0, none⟩) n n) (w.alloc (.cells (madeCells #[Value.int .u8 0] n) 5)) := by
  obtain ⟨i0, hi0, hz0, hz1, hz2⟩ := info_parts info_u812
  have h := run_make (P := Try.prog) w 22 5 i0 (.int .u8 0) Try.underlying22 hi0 hz0 .i64 .i64 n n (by omega) (by omega) (by rw [hz2]; omega) (by omega)
  rw [hz1, Int.toNat_natCast, Nat.mul_one] at h
  exact h
/-- Bytes of the call's own, by a function. -/
def fb8 (h : Nat → Int) (n : Nat) : List Value := (List.range n).map fun i => .int .u8 (h i)
theorem fb8_length (h : Nat → Int) (n : Nat) : (fb8 h n).length = n := by simp [fb8]
theorem fb8_get (f : Nat → Int) (n j : Nat) (h : j < (fb8 f n).length) : (fb8 f n)[j] = .int .u8 (f j) := by simp [fb8]
theorem fb8_set (f : Nat → Int) (n j : Nat) (x : Int) : (fb8 f n).set j (.int .u8 x) = fb8 (upd f j x) n := by
  refine List.ext_getElem (by simp [fb8]) fun i h1 h2 => ?_
  rw [List.getElem_set, fb8_get (upd f j x)]
  by_cases hij : j = i
  · subst hij
    rw [if_pos rfl]
    simp [upd]
  · have hji : ¬ i = j := fun h => hij h.symm
    rw [if_neg hij, fb8_get]
    simp [upd, hji]
def BFn (w : World) (base g n cap : Nat) (f : Nat → Int) : Prop := Own 5 w base g (.slice (some ⟨g, 0, none⟩) n cap) (fb8 f n)
section
variable {w w' : World} {base g n cap : Nat} {f : Nat → Int}
theorem BFn.cell (h : BFn w base g n cap f) (j : Nat) (hj : j < n) : w.cell? ⟨g, j, none⟩ = some (.int .u8 (f j)) := by
  have h' : j < (fb8 f n).length := by rw [fb8_length]; exact hj
  rw [Own.cell h j h', fb8_get]
theorem BFn.free (h : BFn w base g n cap f) (j : Nat) (hj : j < n) : w.frozen? ⟨g, j, none⟩ = false := Own.free h j (by rw [fb8_length]; exact hj)
theorem BFn.set (h : BFn w base g n cap f) (j : Nat) (hj : j < n) (x : Int) : BFn (w.setCell ⟨g, j, none⟩ (.int .u8 x)) base g n cap (upd f j x) := by
  have k := Own.set h j (by rw [fb8_length]; exact hj) (.int .u8 x)
  rw [fb8_set] at k
  exact k
theorem BFn.made (w : World) (n : Nat) (hn : n ≤ maxLen) (hb : base ≤ w.heap.size) : BFn (w.alloc (.cells (madeCells #[Value.int .u8 0] n) 5)) base w.heap.size n n (fun _ => 0) := by
  refine ⟨n, madeCells #[Value.int .u8 0] n, (0, 0), by rw [fb8_length], hb, heap_alloc_new w _, .inl rfl, by rw [fb8_length]; exact Nat.le_refl _, hn, by simp [madeCells], ?_⟩
  have e : (madeCells #[Value.int .u8 0] n).toList = fb8 (fun _ => 0) n := by
    unfold madeCells fb8
    rw [Array.toList_map, Array.toList_range]
    refine List.map_congr_left fun i _ => ?_
    simp [Nat.mod_one]
  rw [e, fb8_length, List.take_of_length_le (by rw [fb8_length]; exact Nat.le_refl _)]
theorem BFn.drew (h : BFn w base g n cap f) : BFn w.drew base g n cap f := Own.drewN h 1
theorem BFn.text (h : BFn w base g n cap f) (zs : List Int) (hl : zs.length = n) (hz : ∀ i, i < n → zs.getD i 0 = f i) : (convert 22 9 (.slice (some ⟨g, 0, none⟩) n cap)).run Try.prog w = .ok (.string (strOfNums zs)) w := by
  refine run_convert_bytes_arg w 22 5 Try.underlying22 Try.underlying5 g 0 _ cap zs hl (fun i hi => ?_) 9 Try.underlying9
  rw [Nat.zero_add, h.cell i hi, hz i hi]
end
end Go.Proofs.Ytcnlcbkgbcnloaa

namespace Go.Proofs.Ytcnlcbkgbcnloaa.TokMath

/-- All are bytes. -/
def Bytes (O : List Int) : Prop := ∀ x ∈ O, 0 ≤ x ∧ x ≤ 255
end Go.Proofs.Ytcnlcbkgbcnloaa.TokMath

namespace Go.Proofs.Ytcnlcbkgbcnloaa
open Go.RowKit Go.Joins TokMath

/-- The numbers of a text. -/
def bytesOf (s : ByteArray) : List Int := s.data.toList.map fun b => (b.toNat : Int)
theorem bytesOf_length (s : ByteArray) : (bytesOf s).length = s.size := by simp [bytesOf]
/-- The cells of bytes. -/
def u8l (O : List Int) : List Value := O.map (Value.int .u8)
theorem u8l_length (O : List Int) : (u8l O).length = O.length := by simp [u8l]
/-- A list of bytes of the call's own, at the head of block g. -/
def BOwn (w : World) (base g n cap : Nat) (O : List Int) : Prop := n = O.length ∧ Own 5 w base g (.slice (some ⟨g, 0, none⟩) n cap) (u8l O)
theorem BOwn.lt {w : World} {base g n cap : Nat} {O : List Int} (h : BOwn w base g n cap O) : g < w.heap.size := h.2.lt
theorem BOwn.base_le {w : World} {base g n cap : Nat} {O : List Int} (h : BOwn w base g n cap O) : base ≤ g := h.2.base_le
theorem BOwn.keep {w w' : World} {base g n cap : Nat} {O : List Int} (h : BOwn w base g n cap O) (hk : w'.heap[g]? = w.heap[g]?) : BOwn w' base g n cap O := ⟨h.1, h.2.keep hk⟩
theorem BOwn.called {w w' : World} {base g n cap : Nat} {O : List Int} (h : BOwn w base g n cap O) (hb : Below w.heap.size w w') : BOwn w' base g n cap O := h.keep (hb.block g h.lt)
theorem BOwn.cell {w : World} {base g n cap : Nat} {O : List Int} (h : BOwn w base g n cap O) (j : Nat) (hj : j < n) : w.cell? ⟨g, j, none⟩ = some (.int .u8 (O.getD j 0)) := by
  have hl : j < O.length := by have := h.1; omega
  have hj' : j < (u8l O).length := by rw [u8l_length]; exact hl
  rw [h.2.cell j hj', List.getD_eq_getElem?_getD, List.getElem?_eq_getElem hl]
  simp [u8l]
/-- '[]byte(s)'. -/
theorem bown_of_text (w : World) (s : ByteArray) (hs : s.size ≤ 1048576) : ∃ W1 cap, (convert 9 22 (.string s)).run Try.prog w = .ok (.slice (some ⟨w.heap.size, 0, none⟩) s.size cap) W1 ∧ BOwn W1 w.heap.size w.heap.size s.size cap (bytesOf s) ∧ Below w.heap.size w W1 := by
  refine ⟨_, _, run_bytes_of_string (P := Try.prog) w 9 22 5 s Try.underlying9 Try.underlying22 Try.underlying5, ⟨(bytesOf_length s).symm, ?_⟩, ?_⟩
  · have h := own_of_bytes (base := w.heap.size) w 5 s (by unfold maxLen; omega) (Nat.le_refl _)
    have e : (s.data.toList.map fun b => Value.int .u8 (b.toNat : Int)) = u8l (bytesOf s) := by unfold u8l bytesOf; rw [List.map_map]; rfl
    rw [e] at h
    exact h
  · exact (Below.refl _ _).drew.alloc (Nat.le_refl _) _
end Go.Proofs.Ytcnlcbkgbcnloaa

namespace Go.Proofs.Ytcnlcbkgbcnloaa
namespace FiltMath
open TakeMath

def siz (x : Int) : Int := if x < 0 then -x else x
/-- The one of three that is nearest to a + b - c. -/
def paeth (a b c : Int) : Int :=
  if siz (a + b - c - a) ≤ siz (a + b - c - b) ∧ siz (a + b - c - a) ≤ siz (a + b - c - c) then a else if siz (a + b - c - b) ≤ siz (a + b - c - c) then b else c
/-- What a kind foretells of a byte, by the byte ahead, the one above and the one above that ahead. -/
def told (k a b c : Int) : Int := if k = 1 then a else if k = 2 then b else if k = 3 then (a + b) / 2 else if k = 4 then paeth a b c else 0
def bts (s : ByteArray) (i : Nat) : Int := (byteAt s i : Int)
end FiltMath
end Go.Proofs.Ytcnlcbkgbcnloaa
