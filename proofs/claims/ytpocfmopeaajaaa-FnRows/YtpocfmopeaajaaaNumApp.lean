/-
  'append' of one number onto a list of numbers of the call's own.
-/
import Derived.Test.YtpocfmopeaajaaaTellsSpec
import Derived.WalkKit
import Derived.ProofKit
import Derived.Below
import Derived.OwnWalk
import Derived.Maps.AppendAt
namespace Go.Proofs.Ytpocfmopeaajaaa
open Go.RowKit Go.Joins

theorem nums_append1 {w : World} {S : Nat} {v : Value} {xs : List Int} {ops : Array Oper} {rest : List Oper} {o : Oper} {a : Act} {Q : Exit → Act → World → Prop} (hgd : o.guard = none) (s x : Operand)
    (ho : o.op = .call { callee := .builtin .append, args := #[s, x], argTypes := #[24, 24] }) (hs : a.eval s = v) (h : NumRow w S v xs) (g c : Nat) (y : Int) (hx : a.eval x = .slice (some ⟨g, 0, none⟩) 1 c) (hy : w.cell? ⟨g, 0, none⟩ = some (.int .i64 y))
    (h63 : xs.length ≤ 100000) (hS : S ≤ w.heap.size)
    (hK : ∀ v' w', NumRow w' S v' (xs ++ [y]) → w.grownBy w' v.ownBlock → (v'.ownBlock = v.ownBlock ∨ v'.ownBlock = some w.heap.size) → wpList Try.prog ops Q rest (a.put o.dst v') w') : wpList Try.prog ops Q (o :: rest) a w := by
  obtain ⟨i0, hi0, hz0, hz1, hz2⟩ := info_parts info_int
  refine wpList_append_own_at w hgd s x _ ho S 3 i0 _ 1 8 Try.underlying24 hi0 hz0 hz1 hz2 rfl (by omega) v _ _ hs h ⟨g, 0, none⟩ 1 c (ivals [y]) hx rfl (fun j u hu => ?_) (ivals_one _) (by unfold maxLen; omega) (by omega) hS ?_
  · cases j with
    | zero =>
      simp [ivals] at hu
      rw [← hu]
      exact hy
    | succ j => simp [ivals] at hu
  · intro v' w' hown hg _ hk
    refine hK v' w' ?_ hg hk
    show w'.ownsRow S 3 1 v' (xs ++ [y]).length (ivals (xs ++ [y]))
    rw [List.length_append, ivals_app]
    exact hown
end Go.Proofs.Ytpocfmopeaajaaa
