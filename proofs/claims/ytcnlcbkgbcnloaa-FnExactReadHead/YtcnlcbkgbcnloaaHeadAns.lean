/-
  Heads in memory, and what is answered of them.
-/
import Derived.Test.YtcnlcbkgbcnloaaRows
import Derived.Test.YtcnlcbkgbcnloaaBase
import Derived.Test.YtcnlcbkgbcnloaaRastMath
import Derived.Test.YtcnlcbkgbcnloaaHeadMath
import Derived.WalkKit
import Derived.Below
import Derived.Laws.MakeOwn
import Derived.Lib.SmallJoins
namespace Go.Proofs.Ytcnlcbkgbcnloaa
open Go.RowKit Go.Joins RastMath BigTextMath HeadMath

theorem head_cells {w : World} {b : Nat} {x y d c : Int} {l : Bool} (h : w.heap[b]? = some (.cells #[.int .i64 x, .int .i64 y, .int .i64 d, .int .i64 c, .bool l] 25 (0, 0))) : w.cell? ⟨b, 0, none⟩ = some (.int .i64 x) ∧ w.cell? ⟨b, 1, none⟩ = some (.int .i64 y) ∧ w.cell? ⟨b, 2, none⟩ = some (.int .i64 d) ∧ w.cell? ⟨b, 3, none⟩ = some (.int .i64 c) ∧ w.cell? ⟨b, 4, none⟩ = some (.bool l) :=
  ⟨(cell_of_block h 0).trans rfl, (cell_of_block h 1).trans rfl, (cell_of_block h 2).trans rfl, (cell_of_block h 3).trans rfl, (cell_of_block h 4).trans rfl⟩
/-- What HeadText answers. -/
def headAns (x y d c : Int) (l : Bool) : Ending := if HeadR x y d c then .returned (.tuple #[.string (headT x y d c l), .bool true]) else .returned (.tuple #[.string ⟨#[]⟩, .bool false])
theorem text_ne {a b : ByteArray} (h : ¬ a = b) : (a.toList == b.toList) = false := by
  rw [ByteArray.toList_eq, ByteArray.toList_eq, beq_eq_false_iff_ne]
  exact fun e => h (ChunkMath.bx_ext e)
theorem two_boxes (w : World) (o1 o2 : Obj) : ((w.alloc o1).alloc o2).drew.heap[w.heap.size]? = some o1 ∧ ((w.alloc o1).alloc o2).drew.heap[w.heap.size + 1]? = some o2 := by
  constructor
  · show ((w.heap.push _).push _)[w.heap.size]? = _
    rw [Array.getElem?_push, if_neg (by simp), Array.getElem?_push, if_pos (by simp)]
  · show ((w.heap.push _).push _)[w.heap.size + 1]? = _
    rw [Array.getElem?_push, if_pos (by simp)]
/-- What ReadHead answers. -/
def readHAns (t : ByteArray) : Ending := if HeadIn t then .returned (.tuple #[.agg #[.int .i64 (hx t), .int .i64 (hy t), .int .i64 (hd t), .int .i64 (hc t), .bool (hl t)], .bool true]) else .returned (.tuple #[.agg #[.int .i64 0, .int .i64 0, .int .i64 0, .int .i64 0, .bool false], .bool false])
theorem readHAns_yes {t : ByteArray} (h : HeadIn t) : readHAns t = .returned (.tuple #[.agg #[.int .i64 (hx t), .int .i64 (hy t), .int .i64 (hd t), .int .i64 (hc t), .bool (hl t)], .bool true]) := if_pos h
theorem readHAns_no {t : ByteArray} (h : ¬ HeadIn t) : readHAns t = .returned (.tuple #[.agg #[.int .i64 0, .int .i64 0, .int .i64 0, .int .i64 0, .bool false], .bool false]) := if_neg h
theorem conv5 {u : World} {g : Nat} {a0 a1 a2 a3 a4 : Int} (h : u.heap[g]? = some (.cells #[.int .u8 a0, .int .u8 a1, .int .u8 a2, .int .u8 a3, .int .u8 a4] 5 (0, 0))) : (convert 22 9 (.slice (some ⟨g, 0, none⟩) 5 5)).run Try.prog u = .ok (.string (strOfNums [a0, a1, a2, a3, a4])) u := by
  refine run_convert_bytes_arg _ 22 5 Try.underlying22 Try.underlying5 g 0 5 5 [a0, a1, a2, a3, a4] rfl ?_ 9 Try.underlying9
  intro i hi
  rw [Nat.zero_add, cell_of_block h i]
  match i, hi with
  | 0, _ => rfl
  | 1, _ => rfl
  | 2, _ => rfl
  | 3, _ => rfl
  | 4, _ => rfl
  | k + 5, hk => omega
end Go.Proofs.Ytcnlcbkgbcnloaa
