/-
  Arrays of sixteen numbers, compared as values.
-/
import Derived.Test.YtpecmolloohklaaRows
import Derived.Test.YtpecmolloohklaaBase
import Derived.Test.YtpecmolloohklaaIntsLib
import Derived.Test.YtpecmolloohklaaSixLib
import Derived.WalkKit
import Derived.ProofKit
import Derived.ChangeKeysEq
import Derived.Lib.SmallJoins
namespace Go.Proofs.Ytpecmolloohklaa
open Go.RowKit Go.Joins

theorem info_six : (Try.prog.info? 3).map (fun i => (i.zero, i.size, i.bytes)) = some (some (.int .i64 0), 1, 8) := by kernel_rfl
theorem six_part (g : Nat → Int) (k : Nat) (hk : k < 16) (w : World) : (part 3 (fints g 16).toArray (k * 1)).run Try.prog w = .ok (.int .i64 (g k)) w := by
  have e : (fints g 16)[k]? = some (.int .i64 (g k)) := by
    rw [List.getElem?_eq_getElem (by rw [fints_length]; exact hk), fints_get]
  simp [go_sem, e]
theorem six_items (g h : Nat → Int) (w : World) : ∀ is : List Nat, (∀ i ∈ is, i < 16) → (Op.eqItems 9999 3 1 (fints g 16).toArray (fints h 16).toArray is).run Try.prog w = .ok (is.all fun i => g i == h i) w
  | [], _ => by simp [Op.eqItems]
  | i :: is, hi => by
    have h1 := hi i (by simp)
    have ih := six_items g h w is (fun j hj => hi j (by simp [hj]))
    have e := run_equalIn_int (P := Try.prog) w 9998 3 .i64 .i64 (g i) (h i) Try.underlying3
    simp only [Op.eqItems, Sem.run_bind, six_part _ i h1, Result.andThen_ok, List.all_cons]
    rw [e]
    simp only [Result.andThen_ok]
    cases hb : (g i == h i)
    · simp
    · simpa using ih
theorem six_eq (g h : Nat → Int) (b : Bool) (hb : b = true ↔ ∀ s, s < 16 → g s = h s) (w : World) : (Op.equalIn 10000 68 (.agg (six g)) (.agg (six h))).run Try.prog w = .ok b w := by
  obtain ⟨i0, hi0, hz0, hz1, hz2⟩ := info_parts info_six
  have hc : Try.prog.cellsOf 3 = 1 := by kernel_rfl
  have k := run_equalIn_array (P := Try.prog) w 9999 (fints g 16).toArray (fints h 16).toArray Try.underlying68 hi0
  rw [hc, six_items g h w _ (fun i hi => List.mem_range.mp hi)] at k
  have e : b = ((List.range 16).all fun i => g i == h i) := by
    rw [Bool.eq_iff_iff, hb]
    simp
  rw [e]
  exact k

end Go.Proofs.Ytpecmolloohklaa
