/-
  The walks of the program's reader of bits: it is made, and told.
-/
import Derived.Test.YtbomnhpkehfdoaaRows
import Derived.Test.YtbomnhpkehfdoaaBase
import Derived.WalkKit
import Derived.ProofKit
import Derived.WalkLawsBesides
import Derived.RegionTactic
import Derived.Deep.QuietTactic
import Derived.Deep.RegionWith
import Derived.BigQuiet
import Derived.Lib.SmallJoins
namespace Go.Proofs.Ytbomnhpkehfdoaa
open Go.RowKit Go.Joins

/-- Block b is a reader of the text s that stands at bit a. -/
def Rd (w : World) (b : Nat) (s : ByteArray) (a : Int) : Prop := w.heap[b]? = some (.cells #[.string s, .int .i64 a] 63 (0, 0))
theorem Rd.c0 {w : World} {b : Nat} {s : ByteArray} {a : Int} (h : Rd w b s a) : w.cell? ⟨b, 0, none⟩ = some (.string s) := cell_of_block h 0
theorem Rd.c1 {w : World} {b : Nat} {s : ByteArray} {a : Int} (h : Rd w b s a) : w.cell? ⟨b, 1, none⟩ = some (.int .i64 a) := cell_of_block h 1
theorem Rd.f {w : World} {b : Nat} {s : ByteArray} {a : Int} (h : Rd w b s a) (i : Nat) : w.frozen? ⟨b, i, none⟩ = false := unfrozen_of_block h i
theorem Rd.set {w : World} {b : Nat} {s : ByteArray} {a : Int} (h : Rd w b s a) (x : Int) : Rd (w.setCell ⟨b, 1, none⟩ (.int .i64 x)) b s x := by
  have := block_setCell (i := 1) h (.int .i64 x)
  simpa [Rd] using this
theorem Rd.lt {w : World} {b : Nat} {s : ByteArray} {a : Int} (h : Rd w b s a) : b < w.heap.size := by
  rcases Nat.lt_or_ge b w.heap.size with k | k
  · exact k
  · unfold Rd at h; rw [Array.getElem?_eq_none k] at h; cases h

set_option maxHeartbeats 400000 in
theorem newReader_yes (s : ByteArray) (a : Int) (w : World) (h1 : s.size ≤ 12000) (h2 : 0 ≤ a) (h3 : a ≤ 8 * s.size) :
    Calls Try.prog 24 #[.agg #[.string s, .int .i64 a]] w fun e w' => e = .returned (.pointer (some ⟨w.heap.size + 1, 0, none⟩)) ∧ w' = (w.alloc (.cells #[.string s, .int .i64 a] 33)).alloc (.cells #[.string s, .int .i64 a] 63) := by
  have d1 : decide ((12000 : Int) < s.size) = false := by simp; omega
  have d2 : decide (a < 0) = false := by simp; omega
  have d3 : decide (8 * (s.size : Int) < a) = false := by simp; omega
  go_enter Try.func24, Try.ntmps24
  go_wp2
  go_ret
  exact ⟨rfl, rfl⟩

theorem newReader_at (s : ByteArray) (a : Int) (w : World) (h1 : s.size ≤ 12000) (h2 : 0 ≤ a) (h3 : a ≤ 8 * s.size) :
    Calls Try.prog 24 #[.agg #[.string s, .int .i64 a]] w fun e w' => ∃ b, e = .returned (.pointer (some ⟨b, 0, none⟩)) ∧ w.heap.size ≤ b ∧ Rd w' b s a ∧ Below w.heap.size w w' := by
  refine (newReader_yes s a w h1 h2 h3).mono ?_
  rintro e w1 ⟨rfl, rfl⟩
  refine ⟨w.heap.size + 1, rfl, by omega, ?_, below_alloc2 _ _ _⟩
  show ((w.heap.push _).push _)[w.heap.size + 1]? = _
  rw [Array.getElem?_push, if_pos (by simp)]

set_option maxHeartbeats 400000 in
theorem newReader_no (s : ByteArray) (a : Int) (w : World) (hs : s.size ≤ maxLen) (h : ¬ (s.size ≤ 12000 ∧ 0 ≤ a ∧ a ≤ 8 * s.size)) :
    Calls Try.prog 24 #[.agg #[.string s, .int .i64 a]] w fun e w' => e = .panicked [{ v := .iface 61 (.agg #[]), recovered := false }] ∧ Below w.heap.size w w' := by
  unfold maxLen at hs
  by_cases h1 : (12000 : Int) < s.size
  · clear h
    go_enter Try.func24, Try.ntmps24
    go_wp2
    exact ⟨rfl, rfl, bstart _ _⟩
  · have d1 : decide ((12000 : Int) < s.size) = false := by simpa using h1
    by_cases h2 : a < 0
    · clear h
      go_enter Try.func24, Try.ntmps24
      go_wp2
      exact ⟨rfl, rfl, bstart _ _⟩
    · have d2 : decide (a < 0) = false := by simpa using h2
      have d3 : 8 * (s.size : Int) < a := by omega
      clear h
      go_enter Try.func24, Try.ntmps24
      go_wp2
      exact ⟨rfl, rfl, bstart _ _⟩

set_option maxHeartbeats 400000 in
theorem readerBits (s : ByteArray) (a : Int) (b : Nat) (w : World) (hR : Rd w b s a) :
    Calls Try.prog 26 #[.pointer (some ⟨b, 0, none⟩)] w fun e w' => e = .returned (.agg #[.string s, .int .i64 a]) ∧ Below w.heap.size w w' := by
  have c0 := hR.c0
  have c1 := hR.c1
  have hb := hR.lt
  have f0 := hR.f
  clear hR
  go_enter Try.func26, Try.ntmps26
  go_wp2
  go_region
  all_goals
    go_wp2
    exact bodyPost_ret (v := .agg #[.string s, .int .i64 a]) (by simp [results, Try.results26, go_sem]) rfl ⟨rfl, (bstart _ _).drew⟩

end Go.Proofs.Ytbomnhpkehfdoaa
