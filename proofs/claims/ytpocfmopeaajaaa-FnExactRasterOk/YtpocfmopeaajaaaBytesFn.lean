/-
  Bytes of the call's own, by a function: made, stored, and their text.
-/
import Derived.Test.YtpocfmopeaajaaaRows
import Derived.Test.YtpocfmopeaajaaaBase
import Derived.Test.YtpocfmopeaajaaaOwnLib
import Derived.Test.YtpocfmopeaajaaaIntsLib
import Derived.Test.YtpocfmopeaajaaaTakeMath
import Derived.WalkKit
import Derived.ProofKit
import Derived.WalkLawsBesides
import Derived.Laws.MakeOwn
import Derived.Below
import Derived.OwnWalk
import Derived.Lib.SmallJoins
namespace Go.Proofs.Ytpocfmopeaajaaa
open Go.RowKit Go.Joins TakeMath

theorem info_u812 : (Try.prog.info? 5).map (fun i => (i.zero, i.size, i.bytes)) = some (some (.int .u8 0), 1, 1) := by kernel_rfl
theorem make_bytes12 (w : World) (n : Nat) (hn : n ≤ 16777216) : (Instr.makeSlice 22 (.int .i64 n) (.int .i64 n)).run Try.prog w = .ok (.slice (some ⟨w.heap.size, 0, none⟩) n n) (w.alloc (.cells (madeCells #[Value.int .u8 0] n) 5)) := by
  obtain ⟨i0, hi0, hz0, hz1, hz2⟩ := info_parts info_u812
  have h := run_make (P := Try.prog) w 22 5 i0 (.int .u8 0) Try.underlying22 hi0 hz0 .i64 .i64 n n (by omega) (by omega) (by rw [hz2]; omega) (by omega)
  rw [hz1, Int.toNat_natCast, Nat.mul_one] at h
  exact h
/-- Bytes of the call's own, by a function. -/
def fb8 (h : Nat → Int) (n : Nat) : List Value := (List.range n).map fun i => .int .u8 (h i)
theorem fb8_length (h : Nat → Int) (n : Nat) : (fb8 h n).length = n := by simp [fb8]
theorem fb8_get (f : Nat → Int) (n j : Nat) (h : j < (fb8 f n).length) : (fb8 f n)[j] = .int .u8 (f j) := by simp [fb8]
theorem fb8_set (f : Nat → Int) (n j : Nat) (x : Int) : (fb8 f n).set j (.int .u8 x) = fb8 (upd f j x) n := by
  refine List.ext_getElem (by simp [fb8]) fun i h1 h2 => ?_
  rw [List.getElem_set, fb8_get (upd f j x)]
  by_cases hij : j = i
  · subst hij
    rw [if_pos rfl]
    simp [upd]
  · have hji : ¬ i = j := fun h => hij h.symm
    rw [if_neg hij, fb8_get]
    simp [upd, hji]
def BFn (w : World) (base g n cap : Nat) (f : Nat → Int) : Prop := Own 5 w base g (.slice (some ⟨g, 0, none⟩) n cap) (fb8 f n)
section
variable {w w' : World} {base g n cap : Nat} {f : Nat → Int}
theorem BFn.cell (h : BFn w base g n cap f) (j : Nat) (hj : j < n) : w.cell? ⟨g, j, none⟩ = some (.int .u8 (f j)) := by
  have h' : j < (fb8 f n).length := by rw [fb8_length]; exact hj
  rw [Own.cell h j h', fb8_get]
theorem BFn.free (h : BFn w base g n cap f) (j : Nat) (hj : j < n) : w.frozen? ⟨g, j, none⟩ = false := Own.free h j (by rw [fb8_length]; exact hj)
theorem BFn.set (h : BFn w base g n cap f) (j : Nat) (hj : j < n) (x : Int) : BFn (w.setCell ⟨g, j, none⟩ (.int .u8 x)) base g n cap (upd f j x) := by
  have k := Own.set h j (by rw [fb8_length]; exact hj) (.int .u8 x)
  rw [fb8_set] at k
  exact k
theorem BFn.made (w : World) (n : Nat) (hn : n ≤ maxLen) (hb : base ≤ w.heap.size) : BFn (w.alloc (.cells (madeCells #[Value.int .u8 0] n) 5)) base w.heap.size n n (fun _ => 0) := by
  refine ⟨n, madeCells #[Value.int .u8 0] n, (0, 0), by rw [fb8_length], hb, heap_alloc_new w _, .inl rfl, by rw [fb8_length]; exact Nat.le_refl _, hn, by simp [madeCells], ?_⟩
  have e : (madeCells #[Value.int .u8 0] n).toList = fb8 (fun _ => 0) n := by
    unfold madeCells fb8
    rw [Array.toList_map, Array.toList_range]
    refine List.map_congr_left fun i _ => ?_
    simp [Nat.mod_one]
  rw [e, fb8_length, List.take_of_length_le (by rw [fb8_length]; exact Nat.le_refl _)]
theorem BFn.drew (h : BFn w base g n cap f) : BFn w.drew base g n cap f := Own.drewN h 1
theorem BFn.text (h : BFn w base g n cap f) (zs : List Int) (hl : zs.length = n) (hz : ∀ i, i < n → zs.getD i 0 = f i) : (convert 22 9 (.slice (some ⟨g, 0, none⟩) n cap)).run Try.prog w = .ok (.string (strOfNums zs)) w := by
  refine run_convert_bytes_arg w 22 5 Try.underlying22 Try.underlying5 g 0 _ cap zs hl (fun i hi => ?_) 9 Try.underlying9
  rw [Nat.zero_add, h.cell i hi, hz i hi]
end
end Go.Proofs.Ytpocfmopeaajaaa
