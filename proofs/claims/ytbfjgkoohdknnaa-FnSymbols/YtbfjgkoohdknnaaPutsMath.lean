/-
  Plain facts on symbols put one behind the other; nothing here speaks of the program.
-/
import Derived.Test.YtbfjgkoohdknnaaOutMath
import Derived.Test.YtbfjgkoohdknnaaPutMath
import Derived.Test.YtbfjgkoohdknnaaPutLib
import Derived.Test.YtbfjgkoohdknnaaCodeMath
import Derived.Test.YtbfjgkoohdknnaaTakeMath
import Derived.Test.YtbfjgkoohdknnaaHitMath
namespace Go.Proofs.Ytbfjgkoohdknnaa
namespace PutsMath
open OutMath PutMath CodeMath HitMath

/-- Text and count behind j symbols. -/
def ps (f : Nat → Int) (n : Nat) (L : Nat → Int) (s : ByteArray) (c : Nat) : Nat → ByteArray × Nat
  | 0 => (s, c)
  | j + 1 => (putOut (ps f n L s c j).1 (ps f n L s c j).2 (codeOf f n (L j).toNat) (fun i => (f (L j).toNat).toNat - 1 - i) (f (L j).toNat).toNat, (ps f n L s c j).2 + (f (L j).toNat).toNat)
/-- Symbol j may be put. -/
def SymOk (f : Nat → Int) (n : Nat) (L : Nat → Int) (s : ByteArray) (c : Nat) (j : Nat) : Prop :=
  0 ≤ L j ∧ L j ≤ (n : Int) - 1 ∧ f (L j).toNat ≠ 0 ∧ May (ps f n L s c j).1 (ps f n L s c j).2 (codeOf f n (L j).toNat) (f (L j).toNat)
def PutsRight (f : Nat → Int) (n : Nat) (L : Nat → Int) (m : Nat) (s : ByteArray) (c : Int) : Prop := Coded f n ∧ outB s c = true ∧ ∀ j, j < m → SymOk f n L s c.toNat j

theorem putOut_size (s : ByteArray) (c : Nat) (x : Int) (pl : Nat → Nat) (n : Nat) (h : outB s c = true) : (putOut s c x pl n).size = (c + n + 7) / 8 := by
  unfold putOut
  rw [strOfNums_size]
  exact (inv_puts (bytes_inv s c h) (fun k => bitOf_01 x (pl k)) n).1
theorem ps_bd {f : Nat → Int} {n : Nat} {L : Nat → Int} {s : ByteArray} {c : Nat} (h : outB s c = true) : ∀ j, (∀ i, i < j → SymOk f n L s c i) → (ps f n L s c j).1.size ≤ 12000 ∧ (ps f n L s c j).2 ≤ 96000
  | 0, _ => by
    obtain ⟨h1, h2, h3, _⟩ := fits_of_outB s c h
    show s.size ≤ 12000 ∧ c ≤ 96000
    omega
  | j + 1, hj => by
    obtain ⟨_, _, _, h1, h2, h3, h4, h5, h6⟩ := hj j (by omega)
    show (putOut (ps f n L s c j).1 (ps f n L s c j).2 (codeOf f n (L j).toNat) (fun i => (f (L j).toNat).toNat - 1 - i) (f (L j).toNat).toNat).size ≤ 12000 ∧ (ps f n L s c j).2 + (f (L j).toNat).toNat ≤ 96000
    rw [putOut_size _ _ _ _ _ h1]
    omega

end PutsMath
end Go.Proofs.Ytbfjgkoohdknnaa
