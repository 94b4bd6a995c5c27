/-
  A list of colors that a call makes, token by token.
-/
import Derived.Test.YtcnlcbkgbcnloaaRows
import Derived.Test.YtcnlcbkgbcnloaaBase
import Derived.Test.YtcnlcbkgbcnloaaHeadMath
import Derived.Test.YtcnlcbkgbcnloaaRgbLib
import Derived.WalkKit
import Derived.ProofKit
import Derived.Below
import Derived.OwnWalk
import Derived.Maps.AppendAt
import Derived.Lib.SmallJoins
namespace Go.Proofs.Ytcnlcbkgbcnloaa
open Go.RowKit Go.Joins HeadMath

/-- The list so far, at the head of block g. -/
def RgbL (w0 w : World) (base g n cap : Nat) (L : List Rgb3) : Prop := n = L.length ∧ w.ownsRow base 38 3 (.slice (some ⟨g, 0, none⟩) n cap) L.length (rgbTcells L) ∧ Below base w0 w
section
variable {w0 w w' : World} {base g n cap : Nat} {L : List Rgb3}
theorem RgbL.block (h : RgbL w0 w base g n cap L) : base ≤ g ∧ ∃ cur, w.heap[g]? = some (.cells cur 38 (0, 0)) := by
  rcases h.2.1.2 with ⟨e, _⟩ | ⟨g', cap', cur, hv, hb, hg, _⟩
  · cases e
  · cases hv
    exact ⟨hb, cur, hg⟩
theorem RgbL.lt (h : RgbL w0 w base g n cap L) : g < w.heap.size := by
  obtain ⟨_, cur, hg⟩ := h.block
  exact block_lt hg
theorem RgbL.start (w : World) : RgbL w (w.alloc (.cells #[] 38)) w.heap.size w.heap.size 0 0 [] :=
  ⟨rfl, ⟨rfl, .inr ⟨w.heap.size, 0, #[], rfl, Nat.le_refl _, heap_alloc_new w _, Nat.le_refl _, Nat.zero_le _, rfl, rfl⟩⟩, bstart _ _⟩
theorem RgbL.called (h : RgbL w0 w base g n cap L) (hb : Below w.heap.size w w') : RgbL w0 w' base g n cap L := by
  have h1 := h.block.1
  have h2 := h.lt
  refine ⟨h.1, rgb_called h.2.1 hb, h.2.2.trans (hb.mono (by omega))⟩
theorem RgbL.app {v1 : Value} {o : Obj} {t : Rgb3} (h : RgbL w0 w base g n cap L) (hown : w'.ownsRow base 38 3 v1 (L ++ [t]).length (rgbTcells (L ++ [t]))) (hg : (w.alloc o).grownBy w' (some g)) : ∃ g1 cap1, v1 = .slice (some ⟨g1, 0, none⟩) (n + 1) cap1 ∧ RgbL w0 w' base g1 (n + 1) cap1 (L ++ [t]) := by
  have hl : (L ++ [t]).length = n + 1 := by rw [List.length_append, List.length_singleton, h.1]
  have h1 := h.block.1
  have h2 := h.lt
  have hB : Below base w0 w' := by
    refine (h.called (bstart w o)).2.2.grown hg (by simp; omega) (fun q hq => ?_)
    cases hq
    exact h1
  have hown0 := hown
  rcases hown.2 with ⟨rfl, h0⟩ | ⟨g', cap', cur, rfl, q1, q2, q3⟩
  · omega
  · refine ⟨g', cap', by rw [hl], hl.symm, ?_, hB⟩
    rw [hl] at hown0
    rw [hl]
    exact hown0
end
theorem rgbNews_tk (w : World) (x y z : Int) (n : Nat) (h : w.heap.size = n) : ∀ q u, (rgbTcells [(x, y, z)])[q]? = some u → (w.alloc (.cells #[.int .i64 x, .int .i64 y, .int .i64 z] 38)).cell? ((⟨n, 0, none⟩ : Addr).add q) = some u := by
  subst h
  exact World.news_of_block (cs := #[.int .i64 x, .int .i64 y, .int .i64 z]) (t := 38) (fr := (0, 0)) (heap_alloc_new w _)
/-- 'append(v, ys...)' of colors, and where the list then lies. -/
theorem rgbs_append_at {w : World} {S : Nat} {v : Value} {xs ys : List Rgb3} {ops : Array Oper} {rest : List Oper} {o : Oper} {a : Act} {Q : Exit → Act → World → Prop} (hgd : o.guard = none) (s x : Operand)
    (ho : o.op = .call { callee := .builtin .append, args := #[s, x], argTypes := #[32, 32] }) (hs : a.eval s = v) (h : w.ownsRow S 38 3 v xs.length (rgbTcells xs)) (ad : Addr) (m c : Nat) (hx : a.eval x = .slice (some ad) m c) (hm : ys.length = m)
    (hc : ∀ j u, (rgbTcells ys)[j]? = some u → w.cell? (ad.add j) = some u)
    (h63 : xs.length + ys.length ≤ 100000) (hS : S ≤ w.heap.size)
    (hK : ∀ v' w', w'.ownsRow S 38 3 v' (xs ++ ys).length (rgbTcells (xs ++ ys)) → w.grownBy w' v.ownBlock → (v'.ownBlock = v.ownBlock ∨ v'.ownBlock = some w.heap.size) → wpList Try.prog ops Q rest (a.put o.dst v') w') : wpList Try.prog ops Q (o :: rest) a w := by
  obtain ⟨i0, hi0, hz0, hz1, hz2⟩ := info_parts info_rgb
  refine wpList_append_own_at w hgd s x _ ho S 38 i0 _ 3 24 Try.underlying32 hi0 hz0 hz1 hz2 rfl (by omega) v _ _ hs h ad m c (rgbTcells ys) hx (by rw [rgbTcells_length, hm]) hc (rgbTcells_one ys) (by unfold maxLen; omega) (by omega) hS ?_
  intro v' w' hown hg _ hat
  refine hK v' w' ?_ hg hat
  rw [List.length_append, rgbTcells_app, hm]
  exact hown

end Go.Proofs.Ytcnlcbkgbcnloaa
