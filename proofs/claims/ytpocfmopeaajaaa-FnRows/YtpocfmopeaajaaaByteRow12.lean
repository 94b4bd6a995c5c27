/-
  A list of bytes of the call's own that grows, and its text.
-/
import Derived.Test.YtpocfmopeaajaaaRows
import Derived.Test.YtpocfmopeaajaaaBase
import Derived.WalkKit
import Derived.ProofKit
import Derived.Below
import Derived.OwnWalk
import Derived.Deep.AppendLies
import Derived.Lib.SmallJoins
namespace Go.Proofs.Ytpocfmopeaajaaa
open Go.RowKit Go.Joins

theorem info_b8 : (Try.prog.info? 5).map (fun i => (i.zero, i.size, i.bytes)) = some (some (.int .u8 0), 1, 1) := by kernel_rfl
def b8 (xs : List Int) : List Value := xs.map (Value.int .u8)
theorem b8_length (xs : List Int) : (b8 xs).length = xs.length := by simp [b8]
theorem b8_app (xs : List Int) (y : Int) : b8 (xs ++ [y]) = b8 xs ++ [.int .u8 y] := by simp [b8]
def BR (w : World) (S g n cap : Nat) (xs : List Int) : Prop := w.ownsRow S 5 1 (.slice (some ⟨g, 0, none⟩) n cap) n (b8 xs) ∧ n = xs.length
theorem BR.empty (w : World) (S : Nat) (h : S ≤ w.heap.size) : BR (w.alloc (.cells #[] 5)) S w.heap.size 0 0 [] :=
  ⟨⟨rfl, .inr ⟨w.heap.size, 0, #[], rfl, h, heap_alloc_new w _, Nat.le_refl _, Nat.zero_le _, rfl, rfl⟩⟩, rfl⟩
theorem BR.text {w : World} {S g n cap : Nat} {xs : List Int} (h : BR w S g n cap xs) : (convert 22 9 (.slice (some ⟨g, 0, none⟩) n cap)).run Try.prog w = .ok (.string (strOfNums xs)) w := by
  refine run_convert_bytes_arg w 22 5 Try.underlying22 Try.underlying5 g 0 _ cap xs h.2.symm (fun i hi => ?_) 9 Try.underlying9
  have hl : i < xs.length := by have := h.2; omega
  rcases h.1.2 with ⟨q, _⟩ | ⟨g', cap', cur, q, _, hg, _, _, _, ht⟩
  · cases q
  · cases q
    rw [Nat.zero_add, h.1.cellAt i (by rw [Nat.mul_one]; exact hi)]
    simp [b8, hl]
theorem BR.keep {w w' : World} {S g n cap : Nat} {xs : List Int} (h : BR w S g n cap xs) (hb : Below w.heap.size w w') : BR w' S g n cap xs := by
  refine ⟨⟨h.1.1, ?_⟩, h.2⟩
  rcases h.1.2 with q | ⟨g', cap', cur, q, h1, hg, h2⟩
  · exact .inl q
  · exact .inr ⟨g', cap', cur, q, h1, (hb.block g' (block_lt hg)).trans hg, h2⟩
theorem bytes_app1 {w : World} {S g n cap : Nat} {xs : List Int} {ops : Array Oper} {rest : List Oper} {o : Oper} {a : Act} {Q : Exit → Act → World → Prop} (hgd : o.guard = none) (s x : Operand)
    (ho : o.op = .call { callee := .builtin .append, args := #[s, x], argTypes := #[22, 22] }) (hs : a.eval s = .slice (some ⟨g, 0, none⟩) n cap) (h : BR w S g n cap xs) (b c : Nat) (y : Int) (hx : a.eval x = .slice (some ⟨b, 0, none⟩) 1 c) (hy : w.cell? ⟨b, 0, none⟩ = some (.int .u8 y))
    (h63 : n ≤ 100000) (hS : S ≤ w.heap.size)
    (hK : ∀ g' cap' w', BR w' S g' (n + 1) cap' (xs ++ [y]) → w.grownBy w' (some g) → wpList Try.prog ops Q rest (a.put o.dst (.slice (some ⟨g', 0, none⟩) (n + 1) cap')) w') : wpList Try.prog ops Q (o :: rest) a w := by
  obtain ⟨i0, hi0, hz0, hz1, hz2⟩ := info_parts info_b8
  refine wpList_append_lies w hgd s x _ ho S 5 i0 _ 1 1 Try.underlying22 hi0 hz0 hz1 hz2 rfl (by omega) _ n (b8 xs) hs h.1 ⟨b, 0, none⟩ 1 c [.int .u8 y] hx rfl (fun j u hu => ?_) (fun u hu => ?_) (by omega) (by unfold maxLen; omega) (by omega) hS _ rfl ?_
  · cases j with
    | zero =>
      simp at hu
      rw [← hu]
      exact hy
    | succ j => simp at hu
  · rw [List.mem_singleton.1 hu]
    rfl
  · intro g' cap' w' hown hg _ _
    refine hK g' cap' w' ⟨?_, by rw [List.length_append, h.2]; rfl⟩ hg
    rw [b8_app]
    exact hown
end Go.Proofs.Ytpocfmopeaajaaa
