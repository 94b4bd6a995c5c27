/-
  The walks of the program's symbols of numbers: how many bits a number has, the symbol and its extra bits.
-/
import Derived.Test.YtihcapfdpgaeiaaRows
import Derived.Test.YtihcapfdpgaeiaaBase
import Derived.Test.YtihcapfdpgaeiaaOutMath
import Derived.Test.YtihcapfdpgaeiaaPutMath
import Derived.Test.YtihcapfdpgaeiaaRetLib
import Derived.Test.YtihcapfdpgaeiaaStepMath
import Derived.Test.YtihcapfdpgaeiaaStepLib
import Derived.Test.YtihcapfdpgaeiaaSymStep
import Derived.WalkKit
import Derived.ProofKit
import Derived.WalkLawsBesides
import Derived.RegionTactic
import Derived.Lib.SmallJoins
import Derived.Lib.Strings
import Derived.Lib.Slices
import Derived.Lib.Small
import Derived.Lib.Walk
import Derived.Lib.BitFns
namespace Go.Proofs.Ytihcapfdpgaeiaa
open Go.RowKit Go.Joins OutMath StepMath

theorem tab_size : Lib.len8tab.size = 256 := by decide +kernel
theorem tab_at : ∀ n : Fin Lib.len8tab.size, (Lib.len8tab[n.val]'n.isLt).toNat = Lib.bitLen n.val ∧ Lib.bitLen n.val ≤ 8 := by decide +kernel
set_option maxHeartbeats 4000000 in
set_option maxRecDepth 100000 in
theorem len64_any (x : Int) (w : World) (h0 : 0 ≤ x) (h1 : x ≤ 65535) :
    Calls Try.prog 69 #[.int .u64 x] w fun e w' => e = .returned (.int .i64 ((Lib.bitLen x.toNat : Nat) : Int)) ∧ w' = w := by
  have d0 : decide ((4294967296 : Int) ≤ x) = false := decide_eq_false (by omega)
  have d1 : decide ((65536 : Int) ≤ x) = false := decide_eq_false (by omega)
  have hz : (Lib.len8tab.size : Int) = 256 := by rw [tab_size]; rfl
  by_cases h8 : x < 256
  · have d2 : decide ((256 : Int) ≤ x) = false := decide_eq_false (by omega)
    go_enter Try.func69, Try.ntmps69
    go_wp2
    · go_ret
      refine ⟨ret_i ?_, rfl⟩
      have e := tab_at ⟨x.toNat, by rw [tab_size]; omega⟩
      simp only at e
      rw [e.1]
      have e2 := e.2
      clear e
      unfold wrap64
      omega
    all_goals omega
  · have d2 : decide ((256 : Int) ≤ x) = true := decide_eq_true (by omega)
    go_enter Try.func69, Try.ntmps69
    go_wp2
    · go_ret
      refine ⟨ret_i ?_, rfl⟩
      have e := tab_at ⟨(x / 256).toNat, by rw [tab_size]; omega⟩
      simp only at e
      rw [e.1, Lib.bitLen_shift8 x.toNat (by omega) (by omega), show x.toNat / 256 = (x / 256).toNat by omega]
      have e2 := e.2
      clear e
      unfold wrap64
      omega
    all_goals omega
theorem len_any (x : Int) (w : World) (h0 : 0 ≤ x) (h1 : x ≤ 65535) :
    Calls Try.prog 66 #[.int .u64 x] w fun e w' => e = .returned (.int .i64 ((Lib.bitLen x.toNat : Nat) : Int)) ∧ w' = w := by
  go_enter Try.func66, Try.ntmps66
  go_wp2_with fail
  refine (len64_any x _ h0 h1).mono ?_
  rintro e w' ⟨rfl, rfl⟩
  go_wp2_with fail
  go_ret
  exact ⟨rfl, rfl⟩

theorem sym_first (c p n : Nat) (hp : p ≤ 2) (hc : c ≤ 14) (h : n < 32768) : wrap64 (wrap64 ((c : Int) * 2 ^ p) + (n : Int) / 2 ^ c) = ((c * 2 ^ p + n / 2 ^ c : Nat) : Int) := by
  have e1 : (c : Int) * 2 ^ p = ((c * 2 ^ p : Nat) : Int) := by rw [Int.natCast_mul, pow_cast]
  have e2 : (n : Int) / 2 ^ c = ((n / 2 ^ c : Nat) : Int) := by rw [Int.natCast_ediv, pow_cast]
  have h1 : 2 ^ p ≤ 4 := Nat.pow_le_pow_right (n := 2) (by omega) hp
  have h2 : c * 2 ^ p ≤ 14 * 4 := Nat.mul_le_mul hc h1
  have h3 := Nat.div_le_self n (2 ^ c)
  rw [e1, e2]
  generalize c * 2 ^ p = q at *
  generalize n / 2 ^ c = r at *
  unfold wrap64
  omega
theorem pow_small (c : Nat) (hc : c ≤ 14) : 1 ≤ 2 ^ c ∧ 2 ^ c ≤ 16384 := ⟨Nat.one_le_two_pow, Nat.pow_le_pow_right (n := 2) (j := 14) (by omega) hc⟩
theorem sym_extra (c n : Nat) (hc : c ≤ 14) (h : n < 32768) : bits .and .i64 (n : Int) (wrap64 (wrap64 (2 ^ c) - 1)) = ((n % 2 ^ c : Nat) : Int) := by
  obtain ⟨h1, h2⟩ := pow_small c hc
  have e1 : wrap64 (wrap64 ((2 : Int) ^ c) - 1) = ((2 ^ c - 1 : Nat) : Int) := by
    rw [← pow_cast]
    generalize 2 ^ c = q at *
    unfold wrap64
    omega
  rw [e1, PutMath.i64_and_nat _ _ (by omega) (by omega), Nat.and_two_pow_sub_one_eq_mod]
set_option maxHeartbeats 800000 in
theorem symbolOf_any (p n : Nat) (w : World) (hp : p ≤ 2) (h : n < 32768) (hB : Lib.bitLen n ≤ 15) :
    Calls Try.prog 63 #[.int .i64 (n : Int), .int .i64 (p : Int)] w fun e w' => e = .returned (.tuple #[.int .i64 (((Lib.bitLen n - (p + 1)) * 2 ^ p + n / 2 ^ (Lib.bitLen n - (p + 1)) : Nat) : Int), .int .i64 ((Lib.bitLen n - (p + 1) : Nat) : Int), .int .i64 ((n % 2 ^ (Lib.bitLen n - (p + 1)) : Nat) : Int)]) ∧ Below w.heap.size w w' := by
  obtain ⟨c, hc⟩ : ∃ c, c = Lib.bitLen n - (p + 1) := ⟨_, rfl⟩
  rw [← hc]
  have hc15 : c ≤ 14 := by omega
  go_enter Try.func63, Try.ntmps63
  go_wp2_with fail
  refine (len_any (n : Int) _ (by omega) (by omega)).mono ?_
  rintro e w' ⟨rfl, rfl⟩
  rw [Int.toNat_natCast]
  have hm : max 0 ((Lib.bitLen n : Int) - (p : Int) - 1) = (c : Int) := by omega
  clear hc
  go_wp2_with fail
  go_region
  go_wp2_with fail
  go_ret3
  exact ⟨ret_iii (sym_first c p n hp hc15 h) rfl (sym_extra c n hc15 h), (Below.refl _ _).drew⟩

end Go.Proofs.Ytihcapfdpgaeiaa
