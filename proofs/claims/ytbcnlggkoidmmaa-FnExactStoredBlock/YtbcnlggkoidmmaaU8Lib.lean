/-
  Bytes that a call made itself, by their numbers.
-/
import Derived.Test.YtbcnlggkoidmmaaRows
import Derived.Test.YtbcnlggkoidmmaaBase
import Derived.Test.YtbcnlggkoidmmaaOutMath
import Derived.Test.YtbcnlggkoidmmaaPutMath
import Derived.Test.YtbcnlggkoidmmaaOwnLib
import Derived.WalkKit
import Derived.ProofKit
import Derived.WalkLawsBesides
import Derived.Lib.SmallJoins
namespace Go.Proofs.Ytbcnlggkoidmmaa
open Go.RowKit Go.Joins OutMath PutMath

theorem info_u8 : (Try.prog.info? 5).map (fun i => (i.zero, i.size, i.bytes)) = some (some (.int .u8 0), 1, 1) := by kernel_rfl
theorem info_int : (Try.prog.info? 3).map (fun i => (i.zero, i.size, i.bytes)) = some (some (.int .i64 0), 1, 8) := by kernel_rfl

def u8s (xs : List Int) : List Value := xs.map (Value.int .u8)

theorem u8s_set (ys : List Int) (m : Nat) (z : Int) : (u8s ys).set m (.int .u8 z) = u8s (ys.set m z) := by unfold u8s; rw [List.map_set]
theorem u8s_snoc (ys : List Int) (z : Int) : u8s ys ++ [.int .u8 z] = u8s (ys ++ [z]) := by simp [u8s]
theorem u8s_length (ys : List Int) : (u8s ys).length = ys.length := by simp [u8s]
theorem own_u8 {e : TypeId} {w : World} {base g : Nat} {v : Value} {ys : List Int} (hO : Own e w base g v (u8s ys)) (m : Nat) (hm : m < ys.length) : w.cell? ⟨g, m, none⟩ = some (.int .u8 (ys.getD m 0)) ∧ w.frozen? ⟨g, m, none⟩ = false := by
  have h' : m < (u8s ys).length := by rw [u8s_length]; exact hm
  refine ⟨?_, hO.free m h'⟩
  rw [hO.cell m h']
  simp [u8s, hm]

/-- Behind the store of a bit. -/
theorem own_bstep {e : TypeId} {w : World} {base g : Nat} {v : Value} {ys : List Int} {k m : Nat} {y b : Int} (hO : Own e w base g v (u8s (pre ys k))) (hI : Inv ys k) (hm : k / 8 = m) (hy : y = (pre ys k).getD m 0) :
    Own e (w.setCell ⟨g, m, none⟩ (.int .u8 (y + b * p2 (k % 8)))).drew base g v (u8s (bstep ys k b)) := by
  subst hm hy
  have hl : k / 8 < (u8s (pre ys k)).length := by rw [u8s_length, pre_len hI]; omega
  have h := hO.set (k / 8) hl (.int .u8 ((pre ys k).getD (k / 8) 0 + b * p2 (k % 8)))
  rw [u8s_set] at h
  exact h.keep rfl

end Go.Proofs.Ytbcnlggkoidmmaa
