/-
  What the program's TokensCost is to answer.
-/
import Derived.Test.YtihcapfdpgaeiaaRows
import Derived.Test.YtihcapfdpgaeiaaBase
import Derived.Test.YtihcapfdpgaeiaaTokMath
import Derived.Test.YtihcapfdpgaeiaaTriLib
import Derived.Test.YtihcapfdpgaeiaaCheapMath
import Derived.WalkKit
import Derived.Below
namespace Go.Proofs.Ytihcapfdpgaeiaa
open Go.RowKit TokMath CheapMath

/-- What is asked of TokensCost. -/
def tokCost (L : List Tok) : Int × Bool := if L.length ≤ 12000 ∧ ∀ t ∈ L, TokRight t then (sumC L, true) else (0, false)
def TokCostAnswer : Prop := ∀ (a : Option Addr) (c : Nat) (L : List Tok) (w : World), TCame w a L.length (fun j => L.getD j (0, 0, 0)) → L.length ≤ c → L.length ≤ 1048576 → (∀ t ∈ L, (Lit.int .i64 t.1).wf = true ∧ (Lit.int .i64 t.2.1).wf = true ∧ (Lit.int .i64 t.2.2).wf = true) →
    Calls Try.prog 16 #[.slice a L.length c] w fun e w' => e = .returned (.tuple #[.int .i64 (tokCost L).1, .bool (tokCost L).2]) ∧ Below w.heap.size w w'
theorem sumC_range : ∀ L : List Tok, 0 ≤ sumC L ∧ sumC L ≤ 31 * (L.length : Int)
  | [] => ⟨Int.le_refl _, by show (0 : Int) ≤ 31 * ((0 : Nat) : Int); omega⟩
  | t :: r => by
    have h1 := sumC_range r
    have h2 := cost_range t
    rw [List.length_cons]
    show 0 ≤ costT t + sumC r ∧ costT t + sumC r ≤ _
    omega
theorem sumC_take {L : List Tok} {j : Nat} (h : j < L.length) : sumC (L.take (j + 1)) = sumC (L.take j) + costT (L.getD j (0, 0, 0)) := by
  rw [List.take_add_one, List.getElem?_eq_getElem h, sumC_app, List.getD_eq_getElem?_getD, List.getElem?_eq_getElem h]
  show sumC (L.take j) + (costT L[j] + 0) = _
  rw [Int.add_zero]
  rfl

end Go.Proofs.Ytihcapfdpgaeiaa
