/-
  Plain facts on bits that are put into bytes, the lowest of each byte first; nothing here speaks of the program.
  The walks of the program's symbols of numbers: how many bits a number has, the symbol and its extra bits.
  What the program is to answer of a length.
  The walk of the program's symbols of lengths.
  What the program is to answer of a distance.
  The walk of the program's symbols of distances.
  What the program's TokenOk is to answer.
  The walks of what a token stands for, and of the program's TokenOk.
-/
import Derived.Test.YtbcnlggkoidmmaaPk07
import Derived.Test.YtbcnlggkoidmmaaRows
import Derived.Test.YtbcnlggkoidmmaaPk01
import Derived.Test.YtbcnlggkoidmmaaPk04
import Derived.Test.YtbcnlggkoidmmaaPk12
import Derived.Test.YtbcnlggkoidmmaaPk14
import Derived.WalkKit
import Derived.Laws.BitsAllLaws
import Derived.ProofKit
import Derived.WalkLawsBesides
import Derived.RegionTactic
import Derived.Lib.SmallJoins
import Derived.Lib.Strings
import Derived.Lib.Slices
import Derived.Lib.Small
import Derived.Lib.Walk
import Derived.Lib.BitFns
import Derived.Below
import Derived.Deep.QuietTactic
import Derived.BigQuiet
namespace Go.Proofs.Ytbcnlggkoidmmaa
namespace PutMath
open OutMath

/-- The bytes with room for one bit more. -/
def pre (xs : List Int) (c : Nat) : List Int := if c % 8 = 0 then xs ++ [0] else xs
/-- The bytes with one bit more, the bit c. -/
def bstep (xs : List Int) (c : Nat) (b : Int) : List Int := (pre xs c).set (c / 8) ((pre xs c).getD (c / 8) 0 + b * p2 (c % 8))
/-- As many bytes as c bits need, those of the last that were not put being 0. -/
def Inv (xs : List Int) (c : Nat) : Prop := xs.length = (c + 7) / 8 ∧ (c % 8 ≠ 0 → 0 ≤ xs.getD (c / 8) 0 ∧ xs.getD (c / 8) 0 < p2 (c % 8))

theorem pre_len {xs : List Int} {c : Nat} (h : Inv xs c) : (pre xs c).length = c / 8 + 1 := by
  obtain ⟨h1, h2⟩ := h
  unfold pre
  split
  · rw [List.length_append, h1]; simp; omega
  · rw [h1]; omega
theorem pre_last {xs : List Int} {c : Nat} (h : Inv xs c) : 0 ≤ (pre xs c).getD (c / 8) 0 ∧ (pre xs c).getD (c / 8) 0 < p2 (c % 8) := by
  obtain ⟨h1, h2⟩ := h
  unfold pre
  split
  · rename_i h0
    have e : xs.length = c / 8 := by omega
    rw [h0, p2_zero, List.getD_eq_getElem?_getD, List.getElem?_append_right (by omega), e]
    simp
  · rename_i h0
    exact h2 h0
theorem mul01 (b q : Int) (h0 : 0 ≤ b) (h1 : b ≤ 1) (hq : 1 ≤ q) : 0 ≤ b * q ∧ b * q ≤ q := by
  have : b = 0 ∨ b = 1 := by omega
  rcases this with rfl | rfl <;> omega
theorem bstep_len {xs : List Int} {c : Nat} (b : Int) (h : Inv xs c) : (bstep xs c b).length = c / 8 + 1 := by
  unfold bstep
  rw [List.length_set, pre_len h]
theorem inv_step {xs : List Int} {c : Nat} {b : Int} (h : Inv xs c) (h0 : 0 ≤ b) (h1 : b ≤ 1) : Inv (bstep xs c b) (c + 1) := by
  have hl := pre_len h
  have hp := pre_last h
  refine ⟨by rw [bstep_len b h]; omega, fun hc => ?_⟩
  have e1 : (c + 1) / 8 = c / 8 := by omega
  have e2 : (c + 1) % 8 = c % 8 + 1 := by omega
  have hm := mul01 b (p2 (c % 8)) h0 h1 (p2_pos _)
  rw [e1, e2, p2_succ]
  unfold bstep
  have e3 : ((pre xs c).set (c / 8) ((pre xs c).getD (c / 8) 0 + b * p2 (c % 8))).getD (c / 8) 0 = (pre xs c).getD (c / 8) 0 + b * p2 (c % 8) := by
    rw [List.getD_eq_getElem?_getD, List.getElem?_set_self (by omega)]
    rfl
  rw [e3]
  omega

/-- The bytes behind k bits, of which f tells each. -/
def puts (xs : List Int) (c : Nat) (f : Nat → Int) : Nat → List Int
  | 0 => xs
  | k + 1 => bstep (puts xs c f k) (c + k) (f k)
theorem inv_puts {xs : List Int} {c : Nat} {f : Nat → Int} (h : Inv xs c) (hf : ∀ k, 0 ≤ f k ∧ f k ≤ 1) : ∀ k, Inv (puts xs c f k) (c + k)
  | 0 => h
  | k + 1 => inv_step (inv_puts h hf k) (hf k).1 (hf k).2

theorem p2_8 {r : Nat} (h : r < 8) : p2 r ≤ 128 := by
  have h1 := p2_le (show r ≤ 7 by omega)
  have h2 : p2 7 = 128 := by decide +kernel
  omega

/-- A bit of a number. -/
def bitOf (x : Int) (k : Nat) : Int := x / p2 k % 2
theorem bitOf_01 (x : Int) (k : Nat) : 0 ≤ bitOf x k ∧ bitOf x k ≤ 1 := by unfold bitOf; omega
theorem bitOf_walk (x : Int) (k : Nat) (h0 : 0 ≤ x) (h1 : x ≤ 16777216) : (Go.RowKit.wrap64 (x / p2 k)).tmod 2 = bitOf x k := by
  have hp := p2_pos k
  have a := Int.ediv_nonneg h0 (show 0 ≤ p2 k by omega)
  have b := Int.ediv_le_self (p2 k) h0
  have e : Go.RowKit.wrap64 (x / p2 k) = x / p2 k := by unfold Go.RowKit.wrap64; omega
  rw [e, Int.tmod_eq_emod_of_nonneg a]
  rfl

theorem bitOf_walk' (x : Int) (k : Nat) (h0 : 0 ≤ x) : (x / p2 k).tmod 2 = bitOf x k := by
  have a := Int.ediv_nonneg h0 (show 0 ≤ p2 k by have := p2_pos k; omega)
  rw [Int.tmod_eq_emod_of_nonneg a]
  rfl

/-- Below two to the r a byte, and a bit at r: 'or' is plus. -/
theorem or_put (y b : Int) (r : Nat) (hr : r < 8) (h0 : 0 ≤ y) (h1 : y < p2 r) (b0 : 0 ≤ b) (b1 : b ≤ 1) : bits .or .u8 y (Go.RowKit.wrap64 (b * 2 ^ r) % 256) = y + b * p2 r := by
  have hm := mul01 b (p2 r) b0 b1 (p2_pos r)
  have hp := p2_8 hr
  have e : Go.RowKit.wrap64 (b * 2 ^ r) % 256 = b * p2 r := by
    show Go.RowKit.wrap64 (b * p2 r) % 256 = _
    unfold Go.RowKit.wrap64; omega
  rw [e]
  obtain ⟨n, rfl⟩ := Int.eq_ofNat_of_zero_le h0
  obtain ⟨m, rfl⟩ := Int.eq_ofNat_of_zero_le b0
  rw [p2_nat] at h1 hm hp ⊢
  rw [show ((m : Int) * ((2 ^ r : Nat) : Int)) = ((m * 2 ^ r : Nat) : Int) from (Int.natCast_mul _ _).symm] at hm ⊢
  rw [u8_or_nat _ _ (by omega) (by omega), Nat.or_comm, nat_join r (m * 2 ^ r) n (by simp) (by omega)]
  omega

theorem i64_and_nat (a b : Nat) (ha : a < 9223372036854775808) (hb : b < 9223372036854775808) : bits .and .i64 (a : Int) (b : Int) = ((a &&& b : Nat) : Int) := by
  have h1 : (BitVec.ofInt 64 (a : Int)).toNat = a := by
    rw [BitVec.ofInt_natCast, BitVec.toNat_ofNat]; exact Nat.mod_eq_of_lt (by omega)
  have h2 : (BitVec.ofInt 64 (b : Int)).toNat = b := by
    rw [BitVec.ofInt_natCast, BitVec.toNat_ofNat]; exact Nat.mod_eq_of_lt (by omega)
  have hx : a &&& b < 2 ^ 63 := Nat.and_lt_two_pow _ (by omega)
  show IntKind.i64.wrap ((BitVec.ofInt 64 (a : Int) &&& BitVec.ofInt 64 (b : Int)).toNat : Int) = _
  rw [BitVec.toNat_and, h1, h2, IntKind.wrap_i64]
  omega
theorem bit_shr (x : Int) (k : Nat) (h0 : 0 ≤ x) (h1 : x ≤ 16777216) (_hk : k ≤ 24) : bits .and .i64 (x / 2 ^ k) 1 = bitOf x k := by
  have a := Int.ediv_nonneg h0 (show 0 ≤ p2 k by have := p2_pos k; omega)
  have b := Int.ediv_le_self (p2 k) h0
  show bits .and .i64 (x / p2 k) 1 = x / p2 k % 2
  generalize x / p2 k = y at *
  obtain ⟨n, rfl⟩ := Int.eq_ofNat_of_zero_le a
  have := i64_and_nat n 1 (by omega) (by omega)
  rw [nat_mask1] at this
  rw [show ((1 : Nat) : Int) = 1 from rfl] at this
  rw [this]
  omega

end PutMath
end Go.Proofs.Ytbcnlggkoidmmaa

namespace Go.Proofs.Ytbcnlggkoidmmaa
open Go.RowKit Go.Joins OutMath StepMath

theorem tab_size : Lib.len8tab.size = 256 := by decide +kernel
theorem tab_at : ∀ n : Fin Lib.len8tab.size, (Lib.len8tab[n.val]'n.isLt).toNat = Lib.bitLen n.val ∧ Lib.bitLen n.val ≤ 8 := by decide +kernel
set_option maxHeartbeats 4000000 in
set_option maxRecDepth 100000 in
theorem len64_any (x : Int) (w : World) (h0 : 0 ≤ x) (h1 : x ≤ 65535) :
    Calls Try.prog 100 #[.int .u64 x] w fun e w' => e = .returned (.int .i64 ((Lib.bitLen x.toNat : Nat) : Int)) ∧ w' = w := by
  have d0 : decide ((4294967296 : Int) ≤ x) = false := decide_eq_false (by omega)
  have d1 : decide ((65536 : Int) ≤ x) = false := decide_eq_false (by omega)
  have hz : (Lib.len8tab.size : Int) = 256 := by rw [tab_size]; rfl
  by_cases h8 : x < 256
  · have d2 : decide ((256 : Int) ≤ x) = false := decide_eq_false (by omega)
    go_enter Try.func100, Try.ntmps100
    go_wp2
    · go_ret
      refine ⟨ret_i ?_, rfl⟩
      have e := tab_at ⟨x.toNat, by rw [tab_size]; omega⟩
      simp only at e
      rw [e.1]
      have e2 := e.2
      clear e
      unfold wrap64
      omega
    all_goals omega
  · have d2 : decide ((256 : Int) ≤ x) = true := decide_eq_true (by omega)
    go_enter Try.func100, Try.ntmps100
    go_wp2
    · go_ret
      refine ⟨ret_i ?_, rfl⟩
      have e := tab_at ⟨(x / 256).toNat, by rw [tab_size]; omega⟩
      simp only at e
      rw [e.1, Lib.bitLen_shift8 x.toNat (by omega) (by omega), show x.toNat / 256 = (x / 256).toNat by omega]
      have e2 := e.2
      clear e
      unfold wrap64
      omega
    all_goals omega
theorem len_any (x : Int) (w : World) (h0 : 0 ≤ x) (h1 : x ≤ 65535) :
    Calls Try.prog 89 #[.int .u64 x] w fun e w' => e = .returned (.int .i64 ((Lib.bitLen x.toNat : Nat) : Int)) ∧ w' = w := by
  go_enter Try.func89, Try.ntmps89
  go_wp2_with fail
  refine (len64_any x _ h0 h1).mono ?_
  rintro e w' ⟨rfl, rfl⟩
  go_wp2_with fail
  go_ret
  exact ⟨rfl, rfl⟩

theorem symc_first (c p n : Nat) (hp : p ≤ 2) (hc : c ≤ 14) (h : n < 32768) : wrap64 (wrap64 ((c : Int) * 2 ^ p) + (n : Int) / 2 ^ c) = ((c * 2 ^ p + n / 2 ^ c : Nat) : Int) := by
  have e1 : (c : Int) * 2 ^ p = ((c * 2 ^ p : Nat) : Int) := by rw [Int.natCast_mul, pow_cast]
  have e2 : (n : Int) / 2 ^ c = ((n / 2 ^ c : Nat) : Int) := by rw [Int.natCast_ediv, pow_cast]
  have h1 : 2 ^ p ≤ 4 := Nat.pow_le_pow_right (n := 2) (by omega) hp
  have h2 : c * 2 ^ p ≤ 14 * 4 := Nat.mul_le_mul hc h1
  have h3 := Nat.div_le_self n (2 ^ c)
  rw [e1, e2]
  generalize c * 2 ^ p = q at *
  generalize n / 2 ^ c = r at *
  unfold wrap64
  omega
theorem symc_pow (c : Nat) (hc : c ≤ 14) : 1 ≤ 2 ^ c ∧ 2 ^ c ≤ 16384 := ⟨Nat.one_le_two_pow, Nat.pow_le_pow_right (n := 2) (j := 14) (by omega) hc⟩
theorem sym_extra (c n : Nat) (hc : c ≤ 14) (h : n < 32768) : bits .and .i64 (n : Int) (wrap64 (wrap64 (2 ^ c) - 1)) = ((n % 2 ^ c : Nat) : Int) := by
  obtain ⟨h1, h2⟩ := symc_pow c hc
  have e1 : wrap64 (wrap64 ((2 : Int) ^ c) - 1) = ((2 ^ c - 1 : Nat) : Int) := by
    rw [← pow_cast]
    generalize 2 ^ c = q at *
    unfold wrap64
    omega
  rw [e1, PutMath.i64_and_nat _ _ (by omega) (by omega), Nat.and_two_pow_sub_one_eq_mod]
set_option maxHeartbeats 800000 in
theorem symbolOf_any (p n : Nat) (w : World) (hp : p ≤ 2) (h : n < 32768) (hB : Lib.bitLen n ≤ 15) :
    Calls Try.prog 75 #[.int .i64 (n : Int), .int .i64 (p : Int)] w fun e w' => e = .returned (.tuple #[.int .i64 (((Lib.bitLen n - (p + 1)) * 2 ^ p + n / 2 ^ (Lib.bitLen n - (p + 1)) : Nat) : Int), .int .i64 ((Lib.bitLen n - (p + 1) : Nat) : Int), .int .i64 ((n % 2 ^ (Lib.bitLen n - (p + 1)) : Nat) : Int)]) ∧ Below w.heap.size w w' := by
  obtain ⟨c, hc⟩ : ∃ c, c = Lib.bitLen n - (p + 1) := ⟨_, rfl⟩
  rw [← hc]
  have hc15 : c ≤ 14 := by omega
  go_enter Try.func75, Try.ntmps75
  go_wp2_with fail
  refine (len_any (n : Int) _ (by omega) (by omega)).mono ?_
  rintro e w' ⟨rfl, rfl⟩
  rw [Int.toNat_natCast]
  have hm : max 0 ((Lib.bitLen n : Int) - (p : Int) - 1) = (c : Int) := by omega
  clear hc
  go_wp2_with fail
  go_region
  go_wp2_with fail
  go_ret3
  exact ⟨ret_iii (symc_first c p n hp hc15 h) rfl (sym_extra c n hc15 h), (Below.refl _ _).drew⟩

end Go.Proofs.Ytbcnlggkoidmmaa

namespace Go.Proofs.Ytbcnlggkoidmmaa
open Go.RowKit StepMath

def LengthCodeAnswer : Prop := ∀ (n : Int) (w : World), (Lit.int .i64 n).wf = true → Calls Try.prog 54 #[.int .i64 n] w fun e w' => e = .returned (.tuple #[.int .i64 (LengthCodeOf n).1, .int .i64 (LengthCodeOf n).2.1, .int .i64 (LengthCodeOf n).2.2]) ∧ Below w.heap.size w w'

end Go.Proofs.Ytbcnlggkoidmmaa

namespace Go.Proofs.Ytbcnlggkoidmmaa
open Go.RowKit Go.Joins OutMath StepMath

theorem isLength_any (x : Int) (w : World) :
    Calls Try.prog 73 #[.int .i64 x] w fun e w' => e = .returned (.bool (decide (3 ≤ x ∧ x ≤ 258))) ∧ w' = w := by
  by_cases h : 3 ≤ x
  · have d : decide ((3 : Int) ≤ x) = true := decide_eq_true h
    have d2 : decide ((3 : Int) ≤ x ∧ x ≤ 258) = decide (x ≤ 258) := by simp [h]
    rw [d2]
    clear d2
    go_enter Try.func73, Try.ntmps73
    go_wp2_with fail
    go_ret
    exact ⟨rfl, rfl⟩
  · have d : decide ((3 : Int) ≤ x) = false := decide_eq_false h
    have d2 : decide ((3 : Int) ≤ x ∧ x ≤ 258) = false := decide_eq_false (fun q => h q.1)
    rw [d2]
    clear d2
    go_enter Try.func73, Try.ntmps73
    go_wp2_with fail
    go_ret
    exact ⟨rfl, rfl⟩
theorem isLength_yes (x : Int) (w : World) (h : 3 ≤ x ∧ x ≤ 258) :
    Calls Try.prog 73 #[.int .i64 x] w fun e w' => e = .returned (.bool true) ∧ w' = w := by
  have := isLength_any x w
  rwa [decide_eq_true h] at this
theorem isLength_no (x : Int) (w : World) (h : ¬ (3 ≤ x ∧ x ≤ 258)) :
    Calls Try.prog 73 #[.int .i64 x] w fun e w' => e = .returned (.bool false) ∧ w' = w := by
  have := isLength_any x w
  rwa [decide_eq_false h] at this

set_option maxHeartbeats 800000 in
theorem lengthCode_answer : LengthCodeAnswer := by
  intro n w _
  by_cases h : 3 ≤ n ∧ n ≤ 258
  · obtain ⟨h3, h258⟩ := h
    obtain ⟨m, rfl⟩ : ∃ m : Nat, n = (m : Int) + 3 := ⟨(n - 3).toNat, by omega⟩
    unfold LengthCodeOf
    rw [if_pos ⟨h3, h258⟩, show ((m : Int) + 3).toNat = m + 3 by omega]
    by_cases he : m = 255
    · subst he
      go_enter Try.func54, Try.ntmps54
      go_wp2_with fail
      refine (isLength_yes _ _ (by omega)).mono ?_
      rintro e w' ⟨rfl, rfl⟩
      go_wp2_with fail
      go_ret3
      exact ⟨rfl, Below.refl _ _⟩
    · have hl := len_sym m (by omega)
      have hs := fun w => symbolOf_any 2 m w (by omega) (by omega) (by omega)
      rw [hl.1]
      have hB := hl.2
      clear hl
      obtain ⟨c, hc⟩ : ∃ c, c = Lib.bitLen m - 3 := ⟨_, rfl⟩
      simp only [show 2 + 1 = 3 from rfl, ← hc] at hs
      rw [← hc]
      have hq := Nat.div_le_self m (2 ^ c)
      have hcl : c ≤ 5 := by omega
      have d : ((m : Int) + 3 == 258) = false := by simp; omega
      have hq2 : (((c * 2 ^ 2 + m / 2 ^ c : Nat) : Int) = ((c * 4 + m / 2 ^ c : Nat) : Int)) := rfl
      rw [hq2] at hs
      clear hc hB hq2
      generalize m / 2 ^ c = q at *
      generalize m % 2 ^ c = r at *
      obtain ⟨s, hsm⟩ : ∃ s, s = c * 4 + q := ⟨_, rfl⟩
      rw [← hsm] at hs ⊢
      have hsl : s ≤ 300 := by omega
      clear hsm
      go_enter Try.func54, Try.ntmps54
      go_wp2_with fail
      refine (isLength_yes _ _ (by omega)).mono ?_
      rintro e w' ⟨rfl, rfl⟩
      go_wp2_with fail
      refine (hs _).mono ?_
      rintro e w1 ⟨rfl, hB1⟩
      have HB := hid_of hB1
      clear hB1 hs
      go_wp2_with fail
      go_ret3
      exact ⟨ret_iii (by omega) rfl rfl, HB.out⟩
  · unfold LengthCodeOf
    rw [if_neg h]
    go_enter Try.func54, Try.ntmps54
    go_wp2_with fail
    refine (isLength_no _ _ h).mono ?_
    rintro e w' ⟨rfl, rfl⟩
    go_wp2_with fail
    go_ret3
    exact ⟨rfl, Below.refl _ _⟩

end Go.Proofs.Ytbcnlggkoidmmaa

namespace Go.Proofs.Ytbcnlggkoidmmaa
open Go.RowKit StepMath

def DistCodeAnswer : Prop := ∀ (n : Int) (w : World), (Lit.int .i64 n).wf = true → Calls Try.prog 55 #[.int .i64 n] w fun e w' => e = .returned (.tuple #[.int .i64 (DistCodeOf n).1, .int .i64 (DistCodeOf n).2.1, .int .i64 (DistCodeOf n).2.2]) ∧ Below w.heap.size w w'

end Go.Proofs.Ytbcnlggkoidmmaa

namespace Go.Proofs.Ytbcnlggkoidmmaa
open Go.RowKit Go.Joins OutMath StepMath

theorem isDist_any (x : Int) (w : World) :
    Calls Try.prog 74 #[.int .i64 x] w fun e w' => e = .returned (.bool (decide (1 ≤ x ∧ x ≤ 32768))) ∧ w' = w := by
  by_cases h : 1 ≤ x
  · have d : decide ((1 : Int) ≤ x) = true := decide_eq_true h
    have d2 : decide ((1 : Int) ≤ x ∧ x ≤ 32768) = decide (x ≤ 32768) := by simp [h]
    rw [d2]
    clear d2
    go_enter Try.func74, Try.ntmps74
    go_wp2_with fail
    go_ret
    exact ⟨rfl, rfl⟩
  · have d : decide ((1 : Int) ≤ x) = false := decide_eq_false h
    have d2 : decide ((1 : Int) ≤ x ∧ x ≤ 32768) = false := decide_eq_false (fun q => h q.1)
    rw [d2]
    clear d2
    go_enter Try.func74, Try.ntmps74
    go_wp2_with fail
    go_ret
    exact ⟨rfl, rfl⟩
theorem isDist_yes (x : Int) (w : World) (h : 1 ≤ x ∧ x ≤ 32768) :
    Calls Try.prog 74 #[.int .i64 x] w fun e w' => e = .returned (.bool true) ∧ w' = w := by
  have := isDist_any x w
  rwa [decide_eq_true h] at this
theorem isDist_no (x : Int) (w : World) (h : ¬ (1 ≤ x ∧ x ≤ 32768)) :
    Calls Try.prog 74 #[.int .i64 x] w fun e w' => e = .returned (.bool false) ∧ w' = w := by
  have := isDist_any x w
  rwa [decide_eq_false h] at this
set_option maxHeartbeats 800000 in
theorem distCode_answer : DistCodeAnswer := by
  intro n w _
  by_cases h : 1 ≤ n ∧ n ≤ 32768
  · obtain ⟨h3, h258⟩ := h
    obtain ⟨m, rfl⟩ : ∃ m : Nat, n = (m : Int) + 1 := ⟨(n - 1).toNat, by omega⟩
    unfold DistCodeOf
    rw [if_pos ⟨h3, h258⟩, show ((m : Int) + 1).toNat = m + 1 by omega]
    have hl := dist_sym (n := m) (by omega)
    have hs := fun w => symbolOf_any 1 m w (by omega) (by omega) hl.2
    rw [hl.1]
    have hB := hl.2
    clear hl
    obtain ⟨c, hc⟩ : ∃ c, c = Lib.bitLen m - 2 := ⟨_, rfl⟩
    simp only [show 1 + 1 = 2 from rfl, ← hc] at hs
    rw [← hc]
    have hq2 : (((c * 2 ^ 1 + m / 2 ^ c : Nat) : Int) = ((c * 2 + m / 2 ^ c : Nat) : Int)) := rfl
    rw [hq2] at hs
    clear hc hB hq2
    generalize c * 2 + m / 2 ^ c = q at *
    generalize m % 2 ^ c = r at *
    go_enter Try.func55, Try.ntmps55
    go_wp2_with fail
    refine (isDist_yes _ _ (by omega)).mono ?_
    rintro e w' ⟨rfl, rfl⟩
    go_wp2_with fail
    refine (hs _).mono ?_
    rintro e w1 ⟨rfl, hB1⟩
    have HB := hid_of hB1
    clear hB1 hs
    go_wp2_with fail
    go_ret3
    exact ⟨rfl, HB.out⟩
  · unfold DistCodeOf
    rw [if_neg h]
    go_enter Try.func55, Try.ntmps55
    go_wp2_with fail
    refine (isDist_no _ _ h).mono ?_
    rintro e w' ⟨rfl, rfl⟩
    go_wp2_with fail
    go_ret3
    exact ⟨rfl, Below.refl _ _⟩

end Go.Proofs.Ytbcnlggkoidmmaa

namespace Go.Proofs.Ytbcnlggkoidmmaa
open Go.RowKit TokMath

end Go.Proofs.Ytbcnlggkoidmmaa

namespace Go.Proofs.Ytbcnlggkoidmmaa
open Go.RowKit Go.Joins TokMath

/-- What stands for a token. -/
def pieceV (t : Tok) : Value := if TokRight t then (if t.2.1 = 0 then .iface 92 (.int .u8 t.1) else .iface 95 (.agg #[.int .i64 t.2.1, .int .i64 t.2.2])) else .nilIface
theorem piece_byte {x : Int} (h0 : 0 ≤ x) (h1 : x ≤ 255) : pieceV (x, 0, 0) = .iface 92 (.int .u8 x) := by
  unfold pieceV
  rw [if_pos (show TokRight (x, 0, 0) from ⟨⟨h0, h1⟩, rfl⟩), if_pos rfl]
theorem piece_repeat {y z : Int} (hy : 3 ≤ y ∧ y ≤ 258) (hz : 1 ≤ z ∧ z ≤ 32768) : pieceV (0, y, z) = .iface 95 (.agg #[.int .i64 y, .int .i64 z]) := by
  have hn : ¬ y = 0 := by omega
  unfold pieceV
  rw [if_pos (show TokRight (0, y, z) by unfold TokRight; rw [if_neg hn]; exact ⟨rfl, hy, hz⟩), if_neg hn]
theorem piece_none {t : Tok} (h : ¬ TokRight t) : pieceV t = .nilIface := by
  unfold pieceV
  rw [if_neg h]

set_option maxHeartbeats 1600000 in
theorem pieceOf_any (x y z : Int) (w : World) :
    Calls Try.prog 52 #[.agg #[.int .i64 x, .int .i64 y, .int .i64 z]] w fun e w' => e = .returned (pieceV (x, y, z)) ∧ Below w.heap.size w w' := by
  have HB := hid_of (bstart w (.cells #[.int .i64 x, .int .i64 y, .int .i64 z] 47))
  by_cases hy : y = 0
  · subst hy
    by_cases hz : z = 0
    · subst hz
      by_cases hx : 0 ≤ x ∧ x ≤ 255
      · have d0 : decide ((0 : Int) ≤ x) = true := decide_eq_true hx.1
        have d1 : decide (x ≤ 255) = true := decide_eq_true hx.2
        have hx0 := hx.1
        have hx1 := hx.2
        rw [piece_byte hx.1 hx.2]
        clear hx
        go_enter Try.func52, Try.ntmps52
        go_wp2_with fail
        go_ret
        exact ⟨rfl, HB.out⟩
      · have hn : ¬ TokRight (x, 0, 0) := fun h => hx h.1
        have d2 : (x == 0) = false := by
          simp
          omega
        rw [piece_none hn]
        by_cases hx0 : 0 ≤ x
        · have d0 : decide ((0 : Int) ≤ x) = true := decide_eq_true hx0
          have d1 : decide (x ≤ 255) = false := decide_eq_false (by omega)
          go_enter Try.func52, Try.ntmps52
          go_wp2_with fail
          go_ret
          exact ⟨rfl, HB.out⟩
        · have d0 : decide ((0 : Int) ≤ x) = false := decide_eq_false hx0
          go_enter Try.func52, Try.ntmps52
          go_wp2_with fail
          go_ret
          exact ⟨rfl, HB.out⟩
    · have hn : ¬ TokRight (x, 0, z) := fun h => hz h.2
      have dz : (z == 0) = false := by
        simp
        omega
      rw [piece_none hn]
      by_cases hx : x = 0
      · subst hx
        have dn := fun w => isLength_no 0 w (by omega)
        go_enter Try.func52, Try.ntmps52
        go_wp2_with fail
        refine (dn _).mono ?_
        rintro e w1 ⟨rfl, rfl⟩
        go_wp2_with fail
        go_ret
        exact ⟨rfl, HB.out⟩
      · have dx : (x == 0) = false := by
          simp
          omega
        go_enter Try.func52, Try.ntmps52
        go_wp2_with fail
        go_ret
        exact ⟨rfl, HB.out⟩
  · have dy : (y == 0) = false := by
      simp
      omega
    by_cases hx : x = 0
    · subst hx
      by_cases h1 : 3 ≤ y ∧ y ≤ 258
      · have dl := fun w => isLength_yes y w h1
        by_cases h2 : 1 ≤ z ∧ z ≤ 32768
        · have dd := fun w => isDist_yes z w h2
          rw [piece_repeat h1 h2]
          go_enter Try.func52, Try.ntmps52
          go_wp2_with fail
          refine (dl _).mono ?_
          rintro e w1 ⟨rfl, rfl⟩
          go_wp2_with fail
          refine (dd _).mono ?_
          rintro e w2 ⟨rfl, rfl⟩
          go_wp2_with fail
          go_ret
          exact ⟨rfl, HB.out⟩
        · have dd := fun w => isDist_no z w h2
          have hn : ¬ TokRight (0, y, z) := fun h => by
            unfold TokRight at h
            rw [if_neg hy] at h
            exact h2 h.2.2
          rw [piece_none hn]
          go_enter Try.func52, Try.ntmps52
          go_wp2_with fail
          refine (dl _).mono ?_
          rintro e w1 ⟨rfl, rfl⟩
          go_wp2_with fail
          refine (dd _).mono ?_
          rintro e w2 ⟨rfl, rfl⟩
          go_wp2_with fail
          go_ret
          exact ⟨rfl, HB.out⟩
      · have dl := fun w => isLength_no y w h1
        have hn : ¬ TokRight (0, y, z) := fun h => by
          unfold TokRight at h
          rw [if_neg hy] at h
          exact h1 h.2.1
        rw [piece_none hn]
        go_enter Try.func52, Try.ntmps52
        go_wp2_with fail
        refine (dl _).mono ?_
        rintro e w1 ⟨rfl, rfl⟩
        go_wp2_with fail
        go_ret
        exact ⟨rfl, HB.out⟩
    · have dx : (x == 0) = false := by
        simp
        omega
      have hn : ¬ TokRight (x, y, z) := fun h => by
        unfold TokRight at h
        rw [if_neg hy] at h
        exact hx h.1
      rw [piece_none hn]
      go_enter Try.func52, Try.ntmps52
      go_wp2_with fail
      go_ret
      exact ⟨rfl, HB.out⟩

end Go.Proofs.Ytbcnlggkoidmmaa
