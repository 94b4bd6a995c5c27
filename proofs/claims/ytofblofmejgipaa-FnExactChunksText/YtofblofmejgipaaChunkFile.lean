/-
  The file of the first chunks of a list: plain texts.
-/
import Derived.Test.YtofblofmejgipaaOutMath
import Derived.Test.YtofblofmejgipaaBigMath
import Derived.Test.YtofblofmejgipaaBigTextMath
import Derived.Test.YtofblofmejgipaaCrcMath
import Derived.Test.YtofblofmejgipaaChunkMath
import Derived.WalkKit
namespace Go.Proofs.Ytofblofmejgipaa
namespace ChunkMath
open Go.RowKit OutMath BigMath BigTextMath CrcMath

abbrev noChk : Chk := (ByteArray.empty, ByteArray.empty)
/-- The file of the first j chunks. -/
def preT (L : List Chk) (j : Nat) : ByteArray := fileT (L.take j)
theorem preT_zero (L : List Chk) : preT L 0 = signT := rfl
theorem preT_all (L : List Chk) : preT L L.length = fileT L := by unfold preT; rw [List.take_length]
theorem preT_succ (L : List Chk) (j : Nat) (h : j < L.length) : preT L (j + 1) = preT L j ++ chunkT (L.getD j noChk) := by
  unfold preT
  rw [List.take_succ_eq_append_getElem h, fileT_snoc, List.getD_eq_getElem?_getD, List.getElem?_eq_getElem h]
  rfl
theorem chunkT_len (c : Chk) : (chunkT c).size = 8 + c.1.size + c.2.size := by
  unfold chunkT sumT
  rw [bx_size, bx_size, bx_size]
  have h := big4_size
  rw [h, h]
  omega
theorem signT_size : signT.size = 8 := rfl
theorem preT_size_succ (L : List Chk) (j : Nat) (h : j < L.length) : (preT L (j + 1)).size = (preT L j).size + 8 + (L.getD j noChk).1.size + (L.getD j noChk).2.size := by
  rw [preT_succ L j h, bx_size, chunkT_len]
  omega
theorem preT_mono (L : List Chk) (j : Nat) (h : j ≤ L.length) : (preT L j).size ≤ (fileT L).size := by
  have : ∀ k, j + k ≤ L.length → (preT L j).size ≤ (preT L (j + k)).size := fun k => by
    induction k with
    | zero => exact fun _ => Nat.le_refl _
    | succ k ih =>
      intro hk
      have h1 := ih (by omega)
      have h2 := preT_size_succ L (j + k) (by omega)
      show _ ≤ (preT L (j + k + 1)).size
      omega
  have h1 := this (L.length - j) (by omega)
  rw [show j + (L.length - j) = L.length by omega, preT_all] at h1
  exact h1
theorem file_bad_name (L : List Chk) (j : Nat) (h : j < L.length) (hn : ¬ NameR (L.getD j noChk).1) : ¬ FileR L := fun q => hn (q.2.1 _ (by
  rw [List.getD_eq_getElem?_getD, List.getElem?_eq_getElem h]
  exact List.getElem_mem h))
theorem file_bad_size (L : List Chk) (j : Nat) (h : j ≤ L.length) (hn : 12000 < (preT L j).size) : ¬ FileR L := fun q => by
  have := preT_mono L j h
  have := q.2.2
  omega
theorem file_good (L : List Chk) (h40 : L.length ≤ 40) (hn : ∀ i, i < L.length → NameR (L.getD i noChk).1) (hs : (preT L L.length).size ≤ 12000) : FileR L := by
  rw [preT_all] at hs
  refine ⟨h40, fun c hc => ?_, hs⟩
  obtain ⟨i, hi, rfl⟩ := List.getElem_of_mem hc
  have := hn i hi
  rw [List.getD_eq_getElem?_getD, List.getElem?_eq_getElem hi] at this
  exact this
open Classical in
/-- What ChunksText answers. -/
noncomputable def chAns (L : List Chk) : Value := if FileR L then .tuple #[.string (fileT L), .bool true] else .tuple #[.string ⟨#[]⟩, .bool false]
end ChunkMath
end Go.Proofs.Ytofblofmejgipaa
