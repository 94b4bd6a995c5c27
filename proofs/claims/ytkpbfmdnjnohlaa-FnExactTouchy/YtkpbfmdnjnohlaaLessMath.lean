/-
  Chapter 19 in plain numbers: which pictures are Touchy.
-/
import Derived.Test.YtkpbfmdnjnohlaaPngMath
namespace Go.Proofs.Ytkpbfmdnjnohlaa
open ChunkMath CrcMath

/-- May a chunk of this name be copied safely? -/
def SafeR (x : ByteArray) : Prop := NameR x ∧ 97 ≤ byteAt x 3
/-- Is there one that may not? -/
def TouchyR (n : Nat) (K : Nat → Chk) : Prop := ¬ ∀ i, i < n → SafeR (K i).1
def sbitN : ByteArray := ⟨#[115, 66, 73, 84]⟩
def bkgdN : ByteArray := ⟨#[98, 75, 71, 68]⟩
def histN : ByteArray := ⟨#[104, 73, 83, 84]⟩
theorem sbit_not : ¬ SafeR sbitN := fun h => absurd h.2 (by decide)
theorem bkgd_not : ¬ SafeR bkgdN := fun h => absurd h.2 (by decide)
theorem hist_not : ¬ SafeR histN := fun h => absurd h.2 (by decide)
theorem sbit_list : sbitN.toList = [115, 66, 73, 84] := by rw [ByteArray.toList_eq]; rfl
theorem bkgd_list : bkgdN.toList = [98, 75, 71, 68] := by rw [ByteArray.toList_eq]; rfl
theorem hist_list : histN.toList = [104, 73, 83, 84] := by rw [ByteArray.toList_eq]; rfl
end Go.Proofs.Ytkpbfmdnjnohlaa
