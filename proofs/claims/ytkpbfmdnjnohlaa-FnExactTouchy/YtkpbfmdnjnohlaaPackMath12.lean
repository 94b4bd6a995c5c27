/-
  Samples in bytes, in plain numbers: by the document's model, and as the program lays them.
-/
import Derived.Test.YtkpbfmdnjnohlaaOutMath
import Derived.Test.YtkpbfmdnjnohlaaPutMath
import Derived.Test.YtkpbfmdnjnohlaaBitsMath
import Derived.Test.YtkpbfmdnjnohlaaRastMath
import Derived.Test.YtkpbfmdnjnohlaaRowMath12
import Derived.Test.YtkpbfmdnjnohlaaUnpMath
import Derived.WalkKit
import Derived.Below
namespace Go.Proofs.Ytkpbfmdnjnohlaa
open Go.RowKit OutMath PutMath BitsMath RastMath

/-- Each sample fits. -/
def Fit12 (f : Nat → Int) (n d : Nat) : Prop := ∀ i, i < n → 0 ≤ f i ∧ f i < p2 d
theorem Fit12.next {f : Nat → Int} {n d : Nat} (h : Fit12 f n d) (h0 : 0 ≤ f n) (h1 : f n < p2 d) : Fit12 f (n + 1) d := fun i hi => by
  by_cases e : i = n
  · rw [e]; exact ⟨h0, h1⟩
  · exact h i (by omega)
/-- May samples be packed? -/
def PckR (f : Nat → Int) (n : Nat) (d : Int) : Prop := Five d ∧ n ≤ 96 ∧ Fit12 f n d.toNat
/-- The first bits of samples. -/
def bitsL (f : Nat → Int) (n d m : Nat) : List Int := (List.range m).map (rowBit f n d)
theorem bitsL_length (f : Nat → Int) (n d m : Nat) : (bitsL f n d m).length = m := by simp [bitsL]
theorem bitsL_next (f : Nat → Int) (n d m : Nat) : bitsL f n d (m + 1) = bitsL f n d m ++ [rowBit f n d m] := by simp [bitsL, List.range_succ]
theorem bitsL_get (f : Nat → Int) (n d m i : Nat) (h : i < m) : (bitsL f n d m).getD i 0 = rowBit f n d i := by simp [bitsL, List.getD_eq_getElem?_getD, h]
/-- The bytes of samples. -/
def packN (f : Nat → Int) (n d b : Nat) : List Int := (List.range b).map (packB f n d)
theorem packN_length (f : Nat → Int) (n d b : Nat) : (packN f n d b).length = b := by simp [packN]
theorem packN_next (f : Nat → Int) (n d b : Nat) : packN f n d (b + 1) = packN f n d b ++ [packB f n d b] := by simp [packN, List.range_succ]
theorem packN_get (f : Nat → Int) (n d b i : Nat) (h : i < b) : (packN f n d b).getD i 0 = packB f n d i := by simp [packN, List.getD_eq_getElem?_getD, h]
def packL (f : Nat → Int) (n d : Nat) : List Int := packN f n d ((n * d + 7) / 8)
/-- The row's text. -/
def packT (f : Nat → Int) (n d : Nat) : ByteArray := strOfNums (packL f n d)
theorem rowBit_in {f : Nat → Int} {n d j k : Nat} (hj : j < n) (hk : k < d) : rowBit f n d (j * d + k) = bitOf (f j) (d - 1 - k) := by
  have hlt : j * d + k < n * d := by
    have : (j + 1) * d ≤ n * d := Nat.mul_le_mul_right d hj
    rw [Nat.add_mul] at this
    omega
  unfold rowBit
  rw [if_pos hlt, show (j * d + k) / d = j by rw [Nat.mul_comm, Nat.mul_add_div (by omega), Nat.div_eq_of_lt hk]; omega, show (j * d + k) % d = k by rw [Nat.mul_comm, Nat.mul_add_mod, Nat.mod_eq_of_lt hk]]
theorem rowBit_out {f : Nat → Int} {n d m : Nat} (h : n * d ≤ m) : rowBit f n d m = 0 := by
  unfold rowBit
  rw [if_neg (by omega)]
/-- One sample more: the bits ahead of it are as they were. -/
theorem rowBit_old (f : Nat → Int) (j d m : Nat) (h : ¬ (j * d ≤ m ∧ m < j * d + d)) : rowBit f (j + 1) d m = rowBit f j d m := by
  unfold rowBit
  rw [Nat.add_mul, Nat.one_mul]
  by_cases h1 : m < j * d
  · rw [if_pos (by omega), if_pos h1]
  · rw [if_neg (by omega), if_neg h1]
theorem packB_none (f : Nat → Int) (d m : Nat) : packB f 0 d m = 0 := by
  unfold packB
  refine (hb_congr 8 (h := fun _ => 0) fun k _ => ?_).trans (hb_zero 8)
  exact rowBit_out (by omega)
/-- A sample of fewer bits than sixteen is put into one byte. -/
theorem packB_small (f : Nat → Int) (j d : Nat) (h : j * d % 8 + d ≤ 8) (h0 : 0 ≤ f j) (h1 : f j < p2 d) :
    (∃ q, packB f j d (j * d / 8) = q * p2 (d + (8 - d - j * d % 8)) ∧ 0 ≤ q ∧ q < p2 (j * d % 8) ∧ packB f (j + 1) d (j * d / 8) = packB f j d (j * d / 8) + f j * p2 (8 - d - j * d % 8)) ∧ ∀ m, ¬ m = j * d / 8 → packB f (j + 1) d m = packB f j d m := by
  obtain ⟨r, hr⟩ : ∃ r, r = j * d := ⟨_, rfl⟩
  rw [← hr] at h ⊢
  obtain ⟨a, ha⟩ : ∃ a, a = r % 8 := ⟨_, rfl⟩
  obtain ⟨sh, hsh⟩ : ∃ sh, sh = 8 - d - a := ⟨_, rfl⟩
  rw [← ha] at h ⊢
  rw [← hsh]
  have e8 : 8 = a + (d + sh) := by omega
  have hz : ∀ (g : Nat → Int), (∀ k, k < sh → g (a + (d + k)) = 0) → hb g 8 = hb g a * p2 (d + sh) + hb (fun k => g (a + k)) d * p2 sh := by
    intro g hg
    have s1 := hb_split g a (d + sh)
    have s2 := hb_split (fun k => g (a + k)) d sh
    have s3 : hb (fun k => (fun k => g (a + k)) (d + k)) sh = 0 := (hb_congr sh (h := fun _ => 0) fun k hk => hg k hk).trans (hb_zero sh)
    rw [s3, Int.add_zero] at s2
    rw [s2, ← e8] at s1
    exact s1
  have ho : ∀ k, k < sh → rowBit f (j + 1) d (8 * (r / 8) + (a + (d + k))) = 0 := fun k hk => rowBit_out (by rw [Nat.add_mul, Nat.one_mul, ← hr]; omega)
  have hp : ∀ k, k < sh → rowBit f j d (8 * (r / 8) + (a + (d + k))) = 0 := fun k hk => rowBit_out (by rw [← hr]; omega)
  have p1 := hz (fun k => rowBit f (j + 1) d (8 * (r / 8) + k)) ho
  have p0 := hz (fun k => rowBit f j d (8 * (r / 8) + k)) hp
  have m0 : hb (fun k => (fun k => rowBit f j d (8 * (r / 8) + k)) (a + k)) d = 0 := (hb_congr d (h := fun _ => 0) fun k hk => rowBit_out (by rw [← hr]; omega)).trans (hb_zero d)
  have m1 : hb (fun k => (fun k => rowBit f (j + 1) d (8 * (r / 8) + k)) (a + k)) d = f j := by
    refine (hb_congr d (h := fun k => bitOf (f j) (d - 1 - k)) fun k hk => ?_).trans ?_
    · show rowBit f (j + 1) d (8 * (r / 8) + (a + k)) = _
      rw [show 8 * (r / 8) + (a + k) = j * d + k by rw [← hr]; omega]
      exact rowBit_in (by omega) hk
    · rw [hb_num _ d h0 h1 d (Nat.le_refl _), Nat.sub_self, p2_zero]
      omega
  have q1 : hb (fun k => rowBit f (j + 1) d (8 * (r / 8) + k)) a = hb (fun k => rowBit f j d (8 * (r / 8) + k)) a := hb_congr a fun k hk => rowBit_old f j d _ (by rw [← hr]; omega)
  rw [m0, Int.zero_mul, Int.add_zero] at p0
  rw [m1, q1, ← p0] at p1
  have hq := hb_range (g := fun k => rowBit f j d (8 * (r / 8) + k)) (fun k => rowBit_range f j d _) a
  refine ⟨⟨_, p0, hq.1, hq.2, p1⟩, fun m hm => hb_congr 8 fun k hk => rowBit_old f j d _ ?_⟩
  rw [← hr]
  omega
/-- One of sixteen bits: two bytes. -/
theorem packB_two (f : Nat → Int) (j : Nat) (h0 : 0 ≤ f j) (h1 : f j < 65536) : packB f (j + 1) 16 (2 * j) = f j / 256 ∧ packB f (j + 1) 16 (2 * j + 1) = f j % 256 ∧ ∀ m, ¬ m = 2 * j → ¬ m = 2 * j + 1 → packB f (j + 1) 16 m = packB f j 16 m := by
  have p8 : p2 8 = 256 := by decide +kernel
  refine ⟨?_, ?_, fun m h2 h3 => hb_congr 8 fun k hk => rowBit_old f j 16 _ (by omega)⟩
  · refine (hb_congr 8 (h := fun k => bitOf (f j / p2 8) (8 - 1 - k)) fun k hk => ?_).trans ?_
    · show rowBit f (j + 1) 16 (8 * (2 * j) + k) = _
      rw [show 8 * (2 * j) + k = j * 16 + k by omega, rowBit_in (by omega) (by omega), bitOf_div, show 8 + (8 - 1 - k) = 16 - 1 - k by omega]
    · rw [hb_num _ 8 (Int.ediv_nonneg h0 (by omega)) (by rw [p8]; omega) 8 (Nat.le_refl _), Nat.sub_self, p2_zero, p8]
      omega
  · refine (hb_congr 8 (h := fun k => bitOf (f j % p2 8) (8 - 1 - k)) fun k hk => ?_).trans ?_
    · show rowBit f (j + 1) 16 (8 * (2 * j + 1) + k) = _
      rw [show 8 * (2 * j + 1) + k = j * 16 + (8 + k) by omega, rowBit_in (by omega) (by omega), bitOf_mod _ (by omega), show 16 - 1 - (8 + k) = 8 - 1 - k by omega]
    · rw [hb_num _ 8 (by rw [p8]; omega) (by rw [p8]; omega) 8 (Nat.le_refl _), Nat.sub_self, p2_zero, p8]
      omega
theorem u8_or_nat (a b : Nat) (ha : a < 256) (hb : b < 256) : bits .or .u8 (a : Int) (b : Int) = ((a ||| b : Nat) : Int) := by
  have h1 : (BitVec.ofInt 8 (a : Int)).toNat = a := by
    rw [BitVec.ofInt_natCast, BitVec.toNat_ofNat]; exact Nat.mod_eq_of_lt (by omega)
  have h2 : (BitVec.ofInt 8 (b : Int)).toNat = b := by
    rw [BitVec.ofInt_natCast, BitVec.toNat_ofNat]; exact Nat.mod_eq_of_lt (by omega)
  have hx : a ||| b < 2 ^ 8 := Nat.or_lt_two_pow (by omega) (by omega)
  show IntKind.u8.wrap ((BitVec.ofInt 8 (a : Int) ||| BitVec.ofInt 8 (b : Int)).toNat : Int) = _
  rw [BitVec.toNat_or, h1, h2]
  show ((a ||| b : Nat) : Int) % 256 = _
  omega
/-- A sample put behind what stands in the byte. -/
theorem or_small (q x : Int) (a d sh : Nat) (h8 : a + (d + sh) = 8) (q0 : 0 ≤ q) (q1 : q < p2 a) (x0 : 0 ≤ x) (x1 : x < p2 d) : bits .or .u8 (q * p2 (d + sh)) (x * p2 sh) = q * p2 (d + sh) + x * p2 sh := by
  obtain ⟨Q, rfl⟩ := Int.eq_ofNat_of_zero_le q0
  obtain ⟨X, rfl⟩ := Int.eq_ofNat_of_zero_le x0
  rw [p2_nat] at q1 x1
  have hX : X < 2 ^ d := by omega
  have hQ : Q < 2 ^ a := by omega
  have hXs : X * 2 ^ sh < 2 ^ (d + sh) := by
    rw [Nat.pow_add]
    exact Nat.mul_lt_mul_of_pos_right hX (Nat.two_pow_pos sh)
  have hQs : (Q + 1) * 2 ^ (d + sh) ≤ 2 ^ 8 := by
    rw [← h8, Nat.pow_add 2 a]
    exact Nat.mul_le_mul_right _ hQ
  rw [Nat.add_mul, Nat.one_mul] at hQs
  have e : Q * 2 ^ (d + sh) ||| X * 2 ^ sh = Q * 2 ^ (d + sh) + X * 2 ^ sh := by
    have := Nat.two_pow_add_eq_or_of_lt hXs Q
    rw [Nat.mul_comm] at this
    exact this.symm
  have := u8_or_nat (Q * 2 ^ (d + sh)) (X * 2 ^ sh) (by omega) (by omega)
  rw [e] at this
  rw [p2_nat, p2_nat, show ((Q : Int) * ((2 ^ (d + sh) : Nat) : Int)) = ((Q * 2 ^ (d + sh) : Nat) : Int) by simp, show ((X : Int) * ((2 ^ sh : Nat) : Int)) = ((X * 2 ^ sh : Nat) : Int) by simp, this]
  omega
/-- What PackRow answers of a right depth and not too many samples. -/
def PackPost (f : Nat → Int) (n d : Nat) (w : World) (e : Ending) (w' : World) : Prop := (Fit12 f n d → e = .returned (.tuple #[.string (packT f n d), .bool true])) ∧ (¬ Fit12 f n d → e = .returned (.tuple #[.string ⟨#[]⟩, .bool false])) ∧ Below w.heap.size w w'
end Go.Proofs.Ytkpbfmdnjnohlaa
