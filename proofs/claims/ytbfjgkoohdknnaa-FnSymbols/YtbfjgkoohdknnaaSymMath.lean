/-
  Plain facts on a code read bit by bit; nothing here speaks of the program.
-/
import Derived.Test.YtbfjgkoohdknnaaOutMath
import Derived.Test.YtbfjgkoohdknnaaCodeMath
import Derived.Test.YtbfjgkoohdknnaaTakeMath
import Derived.Test.YtbfjgkoohdknnaaHitMath
import Derived.WalkKit
namespace Go.Proofs.Ytbfjgkoohdknnaa
namespace HitMath
open OutMath CodeMath TakeMath

theorem or_low (x b : Int) (h0 : 0 ≤ x) (h1 : x ≤ 65536) (b0 : 0 ≤ b) (b1 : b ≤ 1) : bits .or .i64 (2 * x) b = 2 * x + b := by
  obtain ⟨n, rfl⟩ := Int.eq_ofNat_of_zero_le h0
  obtain ⟨m, rfl⟩ := Int.eq_ofNat_of_zero_le b0
  have k := i64_or_nat (2 * n) m (by omega) (by omega)
  have j := Nat.two_pow_add_eq_or_of_lt (i := 1) (b := m) (by omega) n
  rw [show (2 : Nat) ^ 1 = 2 from rfl] at j
  rw [← j] at k
  rw [show (2 : Int) * (n : Int) = ((2 * n : Nat) : Int) by omega, k]
  omega
theorem hi_next (s : ByteArray) (a k : Nat) : hi s a (k + 1) = 2 * hi s a k + bit s (a + k) := rfl
theorem hi_lt (s : ByteArray) (a k : Nat) (hk : k ≤ 15) : 0 ≤ hi s a k ∧ hi s a k ≤ 32768 := by
  have h := hi_bd s a k
  have h2 := p2_le hk
  have e : p2 15 = 32768 := by decide +kernel
  omega

end HitMath
end Go.Proofs.Ytbfjgkoohdknnaa
