/-
  'make' of colors.
-/
import Derived.Test.YtkpbfmdnjnohlaaRows
import Derived.Test.YtkpbfmdnjnohlaaBase
import Derived.Test.YtkpbfmdnjnohlaaHeadMath
import Derived.Test.YtkpbfmdnjnohlaaRgbLib
import Derived.WalkKit
import Derived.ProofKit
import Derived.Below
import Derived.OwnWalk
import Derived.Laws.MakeOwn
import Derived.Lib.SmallJoins
namespace Go.Proofs.Ytkpbfmdnjnohlaa
open Go.RowKit Go.Joins HeadMath

theorem make_rgbs (w : World) (n : Nat) (hn : n ≤ 1048576) : (Instr.makeSlice 38 (.int .i64 n) (.int .i64 n)).run Try.prog w = .ok (.slice (some ⟨w.heap.size, 0, none⟩) n n) (w.alloc (.cells (madeCells #[.int .i64 0, .int .i64 0, .int .i64 0] (n * 3)) 90)) := by
  obtain ⟨i0, hi0, hz0, hz1, hz2⟩ := info_parts info_rgb
  have h := run_make (P := Try.prog) w 38 90 i0 (.agg #[.int .i64 0, .int .i64 0, .int .i64 0]) Try.underlying38 hi0 hz0 .i64 .i64 n n (by omega) (by omega) (by rw [hz2]; omega) (by omega)
  rw [hz1, Int.toNat_natCast] at h
  exact h
theorem made_rgb (n j : Nat) (hj : j < n * 3) : (madeCells #[Value.int .i64 0, .int .i64 0, .int .i64 0] (n * 3))[j]? = some (.int .i64 0) := by
  unfold madeCells
  rw [Array.getElem?_map, Array.getElem?_range, if_pos hj]
  show some ((#[Value.int .i64 0, .int .i64 0, .int .i64 0])[j % 3]!) = _
  have h : j % 3 < 3 := Nat.mod_lt _ (by omega)
  generalize j % 3 = q at h
  match q, h with
  | 0, _ => rfl
  | 1, _ => rfl
  | 2, _ => rfl
theorem RgbOwn.made (w : World) (base n : Nat) (hb : base ≤ w.heap.size) : RgbOwn (w.alloc (.cells (madeCells #[.int .i64 0, .int .i64 0, .int .i64 0] (n * 3)) 90)) base w.heap.size n (fun _ => (0, 0, 0)) :=
  ⟨hb, _, heap_alloc_new w _, by rw [size_madeCells]; exact Nat.le_refl _, fun j hj => ⟨made_rgb n _ (by omega), made_rgb n _ (by omega), made_rgb n _ (by omega)⟩⟩

end Go.Proofs.Ytkpbfmdnjnohlaa
