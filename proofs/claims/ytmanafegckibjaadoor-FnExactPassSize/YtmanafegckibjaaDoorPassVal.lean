/-
  Passes in plain numbers: each function's answer as one value. Nothing here speaks of the program.
-/
import Derived.Test.YtmanafegckibjaaDoorRastMath
import Derived.Test.YtmanafegckibjaaDoorPassMath
import Derived.WalkKit
namespace Go.Proofs.YtmanafegckibjaaDoor
namespace PassMath
open RastMath

abbrev PassR (p : Int) : Prop := 0 ≤ p ∧ p ≤ 6
def stepV (f : Nat → Nat) (p : Int) : Int := if PassR p then (f p.toNat : Int) else 0
/-- May a size and a pass be asked for? -/
abbrev SizeR (W H p : Int) : Prop := SideR W ∧ SideR H ∧ PassR p
def wideV (W H p : Int) : Int := if SizeR W H p then (pw W.toNat H.toNat p.toNat : Int) else 0
def highV (W H p : Int) : Int := if SizeR W H p then (ph W.toNat H.toNat p.toNat : Int) else 0
theorem wideV_nat {W H p : Nat} (hW : 1 ≤ W ∧ W ≤ 24) (hH : 1 ≤ H ∧ H ≤ 24) (hp : p < 7) : wideV W H p = (pw W H p : Int) ∧ highV W H p = (ph W H p : Int) := by
  have h : SizeR W H p := ⟨⟨by omega, by omega⟩, ⟨by omega, by omega⟩, by unfold PassR; omega⟩
  unfold wideV highV
  rw [if_pos h, if_pos h]
  exact ⟨rfl, rfl⟩
end PassMath
end Go.Proofs.YtmanafegckibjaaDoor
