/-
  The walks of the document's model of names: Needless, SafeToCopy.
-/
import Derived.Test.YtkpbfmdnjnohlaaRows
import Derived.Test.YtkpbfmdnjnohlaaBase
import Derived.Test.YtkpbfmdnjnohlaaOutMath
import Derived.Test.YtkpbfmdnjnohlaaCrcMath
import Derived.Test.YtkpbfmdnjnohlaaChunkMath
import Derived.Test.YtkpbfmdnjnohlaaNameSpec
import Derived.WalkKit
import Derived.ProofKit
import Derived.WalkLawsBesides
import Derived.Below
import Derived.Lib.SmallJoins
namespace Go.Proofs.Ytkpbfmdnjnohlaa
open Go.RowKit Go.Joins OutMath ChunkMath CrcMath

theorem specNeedless (n : ByteArray) (w : World) :
    Calls Try.prog 91 #[.string n] w fun e w' => e = .returned (.bool (decide (NameR n ∧ 97 ≤ byteAt n 0))) ∧ w' = w := by
  by_cases h : NameR n
  · have l0 : 0 < n.size := by have := h.1; omega
    by_cases h1 : 97 ≤ byteAt n 0
    · rw [decide_eq_true ⟨h, h1⟩]
      have HN := hid_of h
      have h2 : decide ((97 : Int) ≤ ((n[0]'l0).toNat : Int)) = true := decide_eq_true <| by rw [byteAt_get n 0 l0]; omega
      clear h h1
      go_enter Try.func91, Try.ntmps91
      go_wp2_with fail
      refine (specName_yes _ _ HN.out).mono ?_
      rintro e w1 ⟨rfl, rfl⟩
      go_wp2_with fail
      go_ret
      exact ⟨rfl, rfl⟩
    · rw [decide_eq_false (fun q => h1 q.2)]
      have HN := hid_of h
      have h2 : decide ((97 : Int) ≤ ((n[0]'l0).toNat : Int)) = false := decide_eq_false <| by rw [byteAt_get n 0 l0]; omega
      clear h h1
      go_enter Try.func91, Try.ntmps91
      go_wp2_with fail
      refine (specName_yes _ _ HN.out).mono ?_
      rintro e w1 ⟨rfl, rfl⟩
      go_wp2_with fail
      go_ret
      exact ⟨rfl, rfl⟩
  · rw [decide_eq_false (fun q => h q.1)]
    have HN := hid_of h
    clear h
    go_enter Try.func91, Try.ntmps91
    go_wp2_with fail
    refine (specName_no _ _ HN.out).mono ?_
    rintro e w1 ⟨rfl, rfl⟩
    go_wp2_with fail
    go_ret
    exact ⟨rfl, rfl⟩

theorem specSafeToCopy (n : ByteArray) (w : World) :
    Calls Try.prog 46 #[.string n] w fun e w' => e = .returned (.bool (decide (NameR n ∧ 97 ≤ byteAt n 3))) ∧ w' = w := by
  by_cases h : NameR n
  · have l0 : 3 < n.size := by have := h.1; omega
    by_cases h1 : 97 ≤ byteAt n 3
    · rw [decide_eq_true ⟨h, h1⟩]
      have HN := hid_of h
      have h2 : decide ((97 : Int) ≤ ((n[3]'l0).toNat : Int)) = true := decide_eq_true <| by rw [byteAt_get n 3 l0]; omega
      clear h h1
      go_enter Try.func46, Try.ntmps46
      go_wp2_with fail
      refine (specName_yes _ _ HN.out).mono ?_
      rintro e w1 ⟨rfl, rfl⟩
      go_wp2_with fail
      go_ret
      exact ⟨rfl, rfl⟩
    · rw [decide_eq_false (fun q => h1 q.2)]
      have HN := hid_of h
      have h2 : decide ((97 : Int) ≤ ((n[3]'l0).toNat : Int)) = false := decide_eq_false <| by rw [byteAt_get n 3 l0]; omega
      clear h h1
      go_enter Try.func46, Try.ntmps46
      go_wp2_with fail
      refine (specName_yes _ _ HN.out).mono ?_
      rintro e w1 ⟨rfl, rfl⟩
      go_wp2_with fail
      go_ret
      exact ⟨rfl, rfl⟩
  · rw [decide_eq_false (fun q => h q.1)]
    have HN := hid_of h
    clear h
    go_enter Try.func46, Try.ntmps46
    go_wp2_with fail
    refine (specName_no _ _ HN.out).mono ?_
    rintro e w1 ⟨rfl, rfl⟩
    go_wp2_with fail
    go_ret
    exact ⟨rfl, rfl⟩

end Go.Proofs.Ytkpbfmdnjnohlaa
