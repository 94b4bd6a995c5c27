/-
  Lists of bytes, in plain numbers. Nothing here speaks of the program.
-/
namespace Go.Proofs.Ytpocfmopeaajaaa.TokMath

/-- All are bytes. -/
def Bytes (O : List Int) : Prop := ∀ x ∈ O, 0 ≤ x ∧ x ≤ 255
theorem getD_byte {O : List Int} (h : Bytes O) (i : Nat) : 0 ≤ O.getD i 0 ∧ O.getD i 0 ≤ 255 := by
  rcases Nat.lt_or_ge i O.length with k | k
  · rw [List.getD_eq_getElem?_getD, List.getElem?_eq_getElem k]
    exact h _ (List.getElem_mem k)
  · rw [List.getD_eq_getElem?_getD, List.getElem?_eq_none k]
    exact ⟨Int.le_refl _, by decide⟩
theorem bytes_snoc {O : List Int} {x : Int} (h : Bytes O) (hx : 0 ≤ x ∧ x ≤ 255) : Bytes (O ++ [x]) := by
  intro y hy
  rcases List.mem_append.mp hy with k | k
  · exact h y k
  · rw [List.mem_singleton.mp k]
    exact hx
end Go.Proofs.Ytpocfmopeaajaaa.TokMath
