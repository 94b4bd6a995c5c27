/-
  The model's filters, each answer as one value; the lightest kind.
-/
import Derived.Test.YtccjjpdhojmcgaaRows
import Derived.Test.YtccjjpdhojmcgaaBase
import Derived.Test.YtccjjpdhojmcgaaFiltMath
import Derived.Test.YtccjjpdhojmcgaaFiltVal
import Derived.Test.YtccjjpdhojmcgaaFiltSpec
import Derived.Test.YtccjjpdhojmcgaaFiltSays
import Derived.Test.YtccjjpdhojmcgaaFiltRows
import Derived.WalkKit
import Derived.ProofKit
import Derived.WalkLawsBesides
import Derived.Below
import Derived.Deep.LoopGhost
import Derived.Lib.SmallJoins
namespace Go.Proofs.Ytccjjpdhojmcgaa
open Go.RowKit Go.Joins TakeMath FiltMath

theorem specFilter (k : Int) (row above : ByteArray) (unit : Int) (w : World) (h1 : row.size ≤ 1048576) : Calls Try.prog 11 #[.int .i64 k, .string row, .string above, .int .i64 unit] w fun e w' => e = .returned (.tuple #[.string (filtV k row above unit), .bool (decide (FiltR k row above unit))]) ∧ Below w.heap.size w w' := by
  unfold filtV
  by_cases h : FiltR k row above unit
  · rw [if_pos h, decide_eq_true h]
    obtain ⟨u, hu⟩ : ∃ u : Nat, unit = (u : Int) := ⟨unit.toNat, by have := h.2.1; omega⟩
    subst hu
    exact specFilter_in k row above u w h
  · rw [if_neg h, decide_eq_false h]
    refine (specFilter_out k row above unit w h h1).mono ?_
    rintro e w' ⟨rfl, rfl⟩
    exact ⟨rfl, Below.refl _ _⟩
theorem specUnfilter (k : Int) (row above : ByteArray) (unit : Int) (w : World) (h1 : row.size ≤ 1048576) : Calls Try.prog 19 #[.int .i64 k, .string row, .string above, .int .i64 unit] w fun e w' => e = .returned (.tuple #[.string (unfV k row above unit), .bool (decide (FiltR k row above unit))]) ∧ Below w.heap.size w w' := by
  unfold unfV
  by_cases h : FiltR k row above unit
  · rw [if_pos h, decide_eq_true h]
    obtain ⟨u, hu⟩ : ∃ u : Nat, unit = (u : Int) := ⟨unit.toNat, by have := h.2.1; omega⟩
    subst hu
    exact specUnfilter_in k row above u w h
  · rw [if_neg h, decide_eq_false h]
    refine (specUnfilter_out k row above unit w h h1).mono ?_
    rintro e w' ⟨rfl, rfl⟩
    exact ⟨rfl, Below.refl _ _⟩
end Go.Proofs.Ytccjjpdhojmcgaa
