/-
  A list of tokens that a call makes, token by token.
-/
import Derived.Test.YtihcapfdpgaeiaaRows
import Derived.Test.YtihcapfdpgaeiaaBase
import Derived.Test.YtihcapfdpgaeiaaTokMath
import Derived.Test.YtihcapfdpgaeiaaTriLib
import Derived.WalkKit
import Derived.ProofKit
import Derived.Below
import Derived.OwnWalk
import Derived.Maps.AppendAt
import Derived.Lib.SmallJoins
namespace Go.Proofs.Ytihcapfdpgaeiaa
open Go.RowKit Go.Joins TokMath

/-- The list so far, at the head of block g. -/
def TokL (w0 w : World) (base g n cap : Nat) (L : List Tok) : Prop := n = L.length ∧ w.ownsRow base 51 3 (.slice (some ⟨g, 0, none⟩) n cap) L.length (tcells L) ∧ Below base w0 w
section
variable {w0 w w' : World} {base g n cap : Nat} {L : List Tok}
theorem TokL.block (h : TokL w0 w base g n cap L) : base ≤ g ∧ ∃ cur, w.heap[g]? = some (.cells cur 51 (0, 0)) := by
  rcases h.2.1.2 with ⟨e, _⟩ | ⟨g', cap', cur, hv, hb, hg, _⟩
  · cases e
  · cases hv
    exact ⟨hb, cur, hg⟩
theorem TokL.lt (h : TokL w0 w base g n cap L) : g < w.heap.size := by
  obtain ⟨_, cur, hg⟩ := h.block
  exact block_lt hg
theorem TokL.start (w : World) : TokL w (w.alloc (.cells #[] 51)) w.heap.size w.heap.size 0 0 [] :=
  ⟨rfl, ⟨rfl, .inr ⟨w.heap.size, 0, #[], rfl, Nat.le_refl _, heap_alloc_new w _, Nat.le_refl _, Nat.zero_le _, rfl, rfl⟩⟩, bstart _ _⟩
theorem TokL.called (h : TokL w0 w base g n cap L) (hb : Below w.heap.size w w') : TokL w0 w' base g n cap L := by
  have h1 := h.block.1
  have h2 := h.lt
  refine ⟨h.1, tok_called h.2.1 hb, h.2.2.trans (hb.mono (by omega))⟩
theorem TokL.app {v1 : Value} {o : Obj} {t : Tok} (h : TokL w0 w base g n cap L) (hown : w'.ownsRow base 51 3 v1 (L ++ [t]).length (tcells (L ++ [t]))) (hg : (w.alloc o).grownBy w' (some g)) : ∃ g1 cap1, v1 = .slice (some ⟨g1, 0, none⟩) (n + 1) cap1 ∧ TokL w0 w' base g1 (n + 1) cap1 (L ++ [t]) := by
  have hl : (L ++ [t]).length = n + 1 := by rw [List.length_append, List.length_singleton, h.1]
  have h1 := h.block.1
  have h2 := h.lt
  have hB : Below base w0 w' := by
    refine (h.called (bstart w o)).2.2.grown hg (by simp; omega) (fun q hq => ?_)
    cases hq
    exact h1
  have hown0 := hown
  rcases hown.2 with ⟨rfl, h0⟩ | ⟨g', cap', cur, rfl, q1, q2, q3⟩
  · omega
  · refine ⟨g', cap', by rw [hl], hl.symm, ?_, hB⟩
    rw [hl] at hown0
    rw [hl]
    exact hown0
end
theorem news_tk (w : World) (x y z : Int) (n : Nat) (h : w.heap.size = n) : ∀ q u, (tcells [(x, y, z)])[q]? = some u → (w.alloc (.cells #[.int .i64 x, .int .i64 y, .int .i64 z] 51)).cell? ((⟨n, 0, none⟩ : Addr).add q) = some u := by
  subst h
  exact World.news_of_block (cs := #[.int .i64 x, .int .i64 y, .int .i64 z]) (t := 51) (fr := (0, 0)) (heap_alloc_new w _)
/-- 'append(v, ys...)' of tokens, and where the list then lies. -/
theorem toks_append_at {w : World} {S : Nat} {v : Value} {xs ys : List Tok} {ops : Array Oper} {rest : List Oper} {o : Oper} {a : Act} {Q : Exit → Act → World → Prop} (hgd : o.guard = none) (s x : Operand)
    (ho : o.op = .call { callee := .builtin .append, args := #[s, x], argTypes := #[27, 27] }) (hs : a.eval s = v) (h : w.ownsRow S 51 3 v xs.length (tcells xs)) (ad : Addr) (m c : Nat) (hx : a.eval x = .slice (some ad) m c) (hm : ys.length = m)
    (hc : ∀ j u, (tcells ys)[j]? = some u → w.cell? (ad.add j) = some u)
    (h63 : xs.length + ys.length ≤ 100000) (hS : S ≤ w.heap.size)
    (hK : ∀ v' w', w'.ownsRow S 51 3 v' (xs ++ ys).length (tcells (xs ++ ys)) → w.grownBy w' v.ownBlock → (v'.ownBlock = v.ownBlock ∨ v'.ownBlock = some w.heap.size) → wpList Try.prog ops Q rest (a.put o.dst v') w') : wpList Try.prog ops Q (o :: rest) a w := by
  obtain ⟨i0, hi0, hz0, hz1, hz2⟩ := info_parts info_tok
  refine wpList_append_own_at w hgd s x _ ho S 51 i0 _ 3 24 Try.underlying27 hi0 hz0 hz1 hz2 rfl (by omega) v _ _ hs h ad m c (tcells ys) hx (by rw [tcells_length, hm]) hc (tcells_one ys) (by unfold maxLen; omega) (by omega) hS ?_
  intro v' w' hown hg _ hat
  refine hK v' w' ?_ hg hat
  rw [List.length_append, tcells_app, hm]
  exact hown

end Go.Proofs.Ytihcapfdpgaeiaa
