/-
  Plain facts on a sum that is taken on by one byte by way of its lowest byte; nothing here speaks of the program.
-/
import Derived.Test.YtofblofmejgipaaCrcMath
import Derived.WalkKit
import Derived.Laws.BitsAllLaws
namespace Go.Proofs.Ytofblofmejgipaa
namespace CrcMath

theorem half_twice (h : Nat) : half (2 * h) = h := by
  unfold half
  rw [if_neg (by omega)]
  omega
theorem step_high (h : Nat) : zstep (256 * h) = h := by
  have e : 256 * h = 2 * (2 * (2 * (2 * (2 * (2 * (2 * (2 * h))))))) := by omega
  rw [e]
  show half (half (half (half (half (half (half (half (2 * (2 * (2 * (2 * (2 * (2 * (2 * (2 * h))))))))))))))) = h
  rw [half_twice, half_twice, half_twice, half_twice, half_twice, half_twice, half_twice, half_twice]
theorem split_xor (z : Nat) : (256 * (z / 256)) ^^^ (z % 256) = z := by
  have e : 256 * (z / 256) ||| z % 256 = z := by
    have k := Nat.two_pow_add_eq_or_of_lt (i := 8) (b := z % 256) (by omega) (z / 256)
    rw [show (2 : Nat) ^ 8 = 256 from rfl] at k
    rw [← k]
    omega
  have d : 256 * (z / 256) &&& z % 256 = 0 := by
    refine Nat.eq_of_testBit_eq fun i => ?_
    rw [Nat.testBit_and, Nat.zero_testBit, show (256 : Nat) = 2 ^ 8 from rfl, Nat.testBit_two_pow_mul, Nat.testBit_mod_two_pow]
    by_cases h : i < 8
    · simp [Nat.not_le.mpr h]
    · simp [h]
  refine Nat.eq_of_testBit_eq fun i => ?_
  have k : ((256 * (z / 256)).testBit i && (z % 256).testBit i) = false := by rw [← Nat.testBit_and, d, Nat.zero_testBit]
  have k2 : ((256 * (z / 256)).testBit i || (z % 256).testBit i) = z.testBit i := by rw [← Nat.testBit_or, e]
  rw [Nat.testBit_xor, ← k2]
  cases h1 : (256 * (z / 256)).testBit i <;> cases h2 : (z % 256).testBit i <;> simp_all
theorem step_byte (x b : Nat) (hb : b < 256) : zstep (x ^^^ b) = (x / 256) ^^^ zstep ((x % 256) ^^^ b) := by
  have e1 : (x ^^^ b) / 256 = x / 256 := by
    have k := Nat.shiftRight_xor_distrib (a := x) (b := b) (i := 8)
    rw [Nat.shiftRight_eq_div_pow, Nat.shiftRight_eq_div_pow, Nat.shiftRight_eq_div_pow] at k
    rw [show (2 : Nat) ^ 8 = 256 from rfl, Nat.div_eq_of_lt hb, Nat.xor_zero] at k
    exact k
  have e2 : (x ^^^ b) % 256 = (x % 256) ^^^ b := by
    have k := Nat.xor_mod_two_pow (a := x) (b := b) (n := 8)
    rw [show (2 : Nat) ^ 8 = 256 from rfl, Nat.mod_eq_of_lt hb] at k
    exact k
  have k := split_xor (x ^^^ b)
  rw [← k, step_xor, step_high, e1, e2]
theorem xor8_lt {a b : Nat} (ha : a < 256) (hb : b < 256) : a ^^^ b < 256 := Nat.xor_lt_two_pow (n := 8) ha hb
theorem and_one (y : Nat) (hy : y < 4294967296) : bits .and .u32 (y : Int) 1 = ((y % 2 : Nat) : Int) := by
  have k := u32_and_nat y 1 hy (by omega)
  rw [nat_mask1] at k
  exact k
theorem xor_none (y : Nat) (hy : y < 4294967296) : bits .xor .u32 (y : Int) 0 = (y : Int) := by
  have k := xor32 y 0 hy (by omega)
  rw [Nat.xor_zero] at k
  exact k

end CrcMath
end Go.Proofs.Ytofblofmejgipaa
