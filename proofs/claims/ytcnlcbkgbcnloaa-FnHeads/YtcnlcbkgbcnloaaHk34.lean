/-
  What a draw of samples has at hand: its cursor, and its list of numbers.
-/
import Derived.Test.YtcnlcbkgbcnloaaRows
import Derived.Test.YtcnlcbkgbcnloaaHk01
import Derived.Test.YtcnlcbkgbcnloaaHk02
import Derived.Test.YtcnlcbkgbcnloaaHk03
import Derived.Test.YtcnlcbkgbcnloaaHk04
import Derived.Test.YtcnlcbkgbcnloaaHk30
import Derived.WalkKit
import Derived.ProofKit
import Derived.Lib.SmallJoins
namespace Go.Proofs.Ytcnlcbkgbcnloaa
open Go.RowKit Go.Joins

theorem info_numz : (Try.prog.info? 3).map (fun i => (i.zero, i.size, i.bytes)) = some (some (.int .i64 0), 1, 8) := by kernel_rfl

/-- The list v has n numbers, whatever they are. -/
def NumZ (w0 w : World) (base b n : Nat) (v : Value) : Prop :=
  ∃ (g cap : Nat) (zs : List Int), v = .slice (some ⟨g, 0, none⟩) n cap ∧ zs.length = n ∧ DL 3 w0 w base b g cap (i64s zs)

section
variable {w0 w w' : World} {base b n g cap : Nat}
theorem NumZ.cur {v : Value} (h : NumZ w0 w base b n v) : Cur w base b := by
  obtain ⟨_, _, _, _, _, h⟩ := h
  exact h.cur
theorem NumZ.form {v : Value} (h : NumZ w0 w base b n v) : ∃ g cap, v = .slice (some ⟨g, 0, none⟩) n cap := by
  obtain ⟨g, cap, _, h, _⟩ := h
  exact ⟨g, cap, h⟩
theorem NumZ.drawn {v : Value} (h : NumZ w0 w base b n v) (hg : w.grownBy w' (some b)) (hC : Cur w' base b) : NumZ w0 w' base b n v := by
  obtain ⟨g, cap, zs, h1, h2, h4⟩ := h
  exact ⟨g, cap, zs, h1, h2, h4.drawn hg hC⟩
theorem NumZ.drew {v : Value} (h : NumZ w0 w base b n v) : NumZ w0 w.drew base b n v := by
  obtain ⟨g, cap, zs, h1, h2, h4⟩ := h
  exact ⟨g, cap, zs, h1, h2, h4.drew⟩
theorem NumZ.alloc {v : Value} (h : NumZ w0 w base b n v) (o : Obj) : NumZ w0 (w.alloc o) base b n v := by
  obtain ⟨g, cap, zs, h1, h2, h4, h5, h6, h7⟩ := h
  have hl := h4.lt
  have hb := h4.base_le
  exact ⟨g, cap, zs, h1, h2, h4.alloc o, h5.alloc o, h6, h7.alloc (by omega) o⟩
theorem NumZ.lt (h : NumZ w0 w base b n (.slice (some ⟨g, 0, none⟩) n cap)) : g < w.heap.size ∧ g ≠ b := by
  obtain ⟨g', cap', zs, h1, h2, h4⟩ := h
  cases h1
  exact ⟨h4.2.1.lt, h4.2.2.1⟩
theorem NumZ.below {v : Value} (h : NumZ w0 w base b n v) : Below base w0 w := by
  obtain ⟨_, _, _, _, _, h⟩ := h
  exact h.below
/-- A literal of numbers is a list. -/
theorem NumZ.lit (hC : Cur w base b) (hB : Below base w0 w) (zs : List Int) (hn : zs.length = n) (h9 : n ≤ 1000) : NumZ w0 (w.alloc (.cells (i64s zs).toArray 3)) base b n (.slice (some ⟨w.heap.size, 0, none⟩) n n) := by
  have hl := hC.lt
  have hb := hC.base_le
  refine ⟨w.heap.size, n, zs, rfl, hn, hC.alloc _, ?_, by omega, hB.alloc (by omega) _⟩
  refine ⟨n, (i64s zs).toArray, (0, 0), rfl, by omega, heap_alloc_new w _, .inl rfl, by rw [i64s_length]; omega, by unfold maxLen; omega, by simp [i64s_length, hn], ?_⟩
  simp

/-- What the list is at last. -/
theorem NumZ.out (h : NumZ w0 w base b n (.slice (some ⟨g, 0, none⟩) n cap)) : ∃ f : Nat → Int, IOwn w base g n cap f := by
  obtain ⟨g', cap', zs, h1, h2, h4⟩ := h
  cases h1
  refine ⟨fun j => zs.getD j 0, ?_⟩
  have h5 := h4.own
  have e : i64s zs = fints (fun j => zs.getD j 0) n := by
    refine List.ext_getElem (by rw [i64s_length, fints_length]; exact h2) fun i k1 k2 => ?_
    rw [i64s_get, fints_get]
  rw [i64s_length, h2, e] at h5
  exact h5

end

end Go.Proofs.Ytcnlcbkgbcnloaa
