/-
  The walks of the program's Adler sum: made of a word, and told as one.
-/
import Derived.Test.YtbdnjejcnlinnaaRows
import Derived.Test.YtbdnjejcnlinnaaBase
import Derived.Test.YtbdnjejcnlinnaaAdlerMath
import Derived.WalkKit
import Derived.ProofKit
import Derived.WalkLawsBesides
import Derived.RegionTactic
import Derived.BigRegion
import Derived.Deep.QuietTactic
import Derived.Lib.SmallJoins
namespace Go.Proofs.Ytbdnjejcnlinnaa
open Go.RowKit Go.Joins AdlerMath

theorem newAdler_any (x : Int) (w : World) (h0 : 0 ≤ x) (h1 : x ≤ 4294967295) :
    Calls Try.prog 8 #[.int .u32 x] w fun e w' => e = .returned (.agg #[.int .i64 (x % 65536 % 65521), .int .i64 (x / 65536 % 65521)]) ∧ Below w.heap.size w w' := by
  have k := and_low x h0 h1
  go_enter Try.func8, Try.ntmps8
  go_wp2
  exact bodyPost_ret (v := .agg #[.int .i64 (x % 65536 % 65521), .int .i64 (x / 65536 % 65521)]) (by simp [results, Try.results8, go_sem]) rfl ⟨rfl, bstart _ _⟩

/-- Block b is a sum with these halves. -/
def Ad (w : World) (b : Nat) (p q : Int) : Prop := w.heap[b]? = some (.cells #[.int .i64 p, .int .i64 q] 27 (0, 0))
theorem Ad.c0 {w : World} {b : Nat} {p q : Int} (h : Ad w b p q) : w.cell? ⟨b, 0, none⟩ = some (.int .i64 p) := cell_of_block h 0
theorem Ad.c1 {w : World} {b : Nat} {p q : Int} (h : Ad w b p q) : w.cell? ⟨b, 1, none⟩ = some (.int .i64 q) := cell_of_block h 1
theorem Ad.f {w : World} {b : Nat} {p q : Int} (h : Ad w b p q) (i : Nat) : w.frozen? ⟨b, i, none⟩ = false := unfrozen_of_block h i
theorem Ad.set0 {w : World} {b : Nat} {p q : Int} (h : Ad w b p q) (x : Int) : Ad (w.setCell ⟨b, 0, none⟩ (.int .i64 x)) b x q := by
  have := block_setCell (i := 0) h (.int .i64 x)
  simpa [Ad] using this
theorem Ad.set1 {w : World} {b : Nat} {p q : Int} (h : Ad w b p q) (x : Int) : Ad (w.setCell ⟨b, 1, none⟩ (.int .i64 x)) b p x := by
  have := block_setCell (i := 1) h (.int .i64 x)
  simpa [Ad] using this
theorem Ad.drew {w : World} {b : Nat} {p q : Int} (h : Ad w b p q) (n : Nat) : Ad (w.drewN n) b p q := h
theorem Ad.drew1 {w : World} {b : Nat} {p q : Int} (h : Ad w b p q) : Ad w.drew b p q := h
theorem Ad.lt {w : World} {b : Nat} {p q : Int} (h : Ad w b p q) : b < w.heap.size := by
  rcases Nat.lt_or_ge b w.heap.size with k | k
  · exact k
  · unfold Ad at h; rw [Array.getElem?_eq_none k] at h; cases h

set_option maxHeartbeats 400000 in
theorem adlerWord (p q : Int) (b : Nat) (w : World) (hA : Ad w b p q) (h0 : 0 ≤ p) (h1 : p < 65521) (h2 : 0 ≤ q) (h3 : q < 65521) :
    Calls Try.prog 10 #[.pointer (some ⟨b, 0, none⟩)] w fun e w' => e = .returned (.int .u32 (q * 65536 + p)) ∧ Below w.heap.size w w' := by
  have c0 := hA.c0
  have c1 := hA.c1
  have hb := hA.lt
  have f0 := hA.f
  have k := or_word p q h0 h1 h2 h3
  clear hA
  go_enter Try.func10, Try.ntmps10
  go_wp2
  go_region
  all_goals
    go_wp2
    go_ret
    exact ⟨rfl, (Below.refl _ _).drew⟩

end Go.Proofs.Ytbdnjejcnlinnaa
