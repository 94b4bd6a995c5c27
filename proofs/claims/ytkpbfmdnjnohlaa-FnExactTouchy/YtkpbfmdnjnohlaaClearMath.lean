/-
  What is clear in a picture, in plain numbers. Nothing here speaks of the program.
-/
import Derived.Test.YtkpbfmdnjnohlaaOutMath
import Derived.Test.YtkpbfmdnjnohlaaPutMath
import Derived.Test.YtkpbfmdnjnohlaaBitsMath
import Derived.Test.YtkpbfmdnjnohlaaBigTextMath
import Derived.Test.YtkpbfmdnjnohlaaRastMath
import Derived.Test.YtkpbfmdnjnohlaaRowMath12
import Derived.Test.YtkpbfmdnjnohlaaUnpMath
import Derived.Test.YtkpbfmdnjnohlaaPackMath12
import Derived.Test.YtkpbfmdnjnohlaaHeadMath
import Derived.WalkKit
namespace Go.Proofs.Ytkpbfmdnjnohlaa
open Go.RowKit OutMath PutMath BitsMath BigTextMath RastMath HeadMath

/-- Is what is clear right, and not nothing? -/
def ClearR (d c table : Int) (n : Nat) (f : Nat → Int) : Prop := 1 ≤ n ∧ ((c = 0 ∧ n = 1 ∧ Fit12 f n d.toNat) ∨ (c = 2 ∧ n = 3 ∧ Fit12 f n d.toNat) ∨ (c = 3 ∧ (n : Int) ≤ table ∧ Fit12 f n 8))
theorem clearR_congr {d c table : Int} {n : Nat} {f g : Nat → Int} (e : ∀ i, i < n → f i = g i) (h : ClearR d c table n f) : ClearR d c table n g := by
  have k : ∀ m, Fit12 f n m → Fit12 g n m := fun m q i hi => by rw [← e i hi]; exact q i hi
  rcases h.2 with ⟨a, b, q⟩ | ⟨a, b, q⟩ | ⟨a, b, q⟩
  · exact ⟨h.1, .inl ⟨a, b, k _ q⟩⟩
  · exact ⟨h.1, .inr (.inl ⟨a, b, k _ q⟩)⟩
  · exact ⟨h.1, .inr (.inr ⟨a, b, k _ q⟩)⟩
/-- The bytes of numbers of k bytes each. -/
def clrL (k : Nat) (f : Nat → Int) : Nat → List Int
  | 0 => []
  | n + 1 => clrL k f n ++ low (f n) k
theorem clrL_next (k : Nat) (f : Nat → Int) (n : Nat) : clrL k f (n + 1) = clrL k f n ++ low (f n) k := rfl
theorem clrL_length (k : Nat) (f : Nat → Int) : ∀ n, (clrL k f n).length = k * n
  | 0 => rfl
  | n + 1 => by
    rw [clrL_next, List.length_append, clrL_length k f n, low_length, Nat.mul_succ]
theorem clrL_congr {k : Nat} {f g : Nat → Int} : ∀ n, (∀ i, i < n → f i = g i) → clrL k f n = clrL k g n
  | 0, _ => rfl
  | n + 1, h => by rw [clrL_next, clrL_next, clrL_congr n fun i hi => h i (by omega), h n (by omega)]
def clrT (c : Int) (f : Nat → Int) (n : Nat) : ByteArray := strOfNums (clrL (if c = 3 then 1 else 2) f n)
theorem p2_8 : p2 8 = 256 := by decide +kernel
theorem p16 : p2 16 = 65536 := by decide +kernel
theorem packB8 {f : Nat → Int} {n i : Nat} (hF : Fit12 f n 8) (hi : i < n) : packB f n 8 i = f i := by
  obtain ⟨h0, h1⟩ := hF i hi
  refine (hb_congr 8 (h := fun k => bitOf (f i) (8 - 1 - k)) fun k hk => ?_).trans ?_
  · show rowBit f n 8 (8 * i + k) = _
    rw [show 8 * i + k = i * 8 + k by omega]
    exact rowBit_in hi hk
  · rw [hb_num _ 8 h0 h1 8 (Nat.le_refl _), Nat.sub_self, p2_zero]
    omega
theorem packB16 {f : Nat → Int} {n i : Nat} (hF : Fit12 f n 16) (hi : i < n) : packB f n 16 (2 * i) = f i / 256 ∧ packB f n 16 (2 * i + 1) = f i % 256 := by
  obtain ⟨h0, h1⟩ := hF i hi
  rw [p16] at h1
  constructor
  · refine (hb_congr 8 (h := fun k => bitOf (f i / p2 8) (8 - 1 - k)) fun k hk => ?_).trans ?_
    · show rowBit f n 16 (8 * (2 * i) + k) = _
      rw [show 8 * (2 * i) + k = i * 16 + k by omega, rowBit_in hi (by omega), bitOf_div, show 8 + (8 - 1 - k) = 16 - 1 - k by omega]
    · rw [hb_num _ 8 (Int.ediv_nonneg h0 (by rw [p2_8]; omega)) (by rw [p2_8]; omega) 8 (Nat.le_refl _), Nat.sub_self, p2_zero, p2_8]
      omega
  · refine (hb_congr 8 (h := fun k => bitOf (f i % p2 8) (8 - 1 - k)) fun k hk => ?_).trans ?_
    · show rowBit f n 16 (8 * (2 * i + 1) + k) = _
      rw [show 8 * (2 * i + 1) + k = i * 16 + (8 + k) by omega, rowBit_in hi (by omega), bitOf_mod _ (by omega), show 16 - 1 - (8 + k) = 8 - 1 - k by omega]
    · rw [hb_num _ 8 (by rw [p2_8]; omega) (by rw [p2_8]; omega) 8 (Nat.le_refl _), Nat.sub_self, p2_zero, p2_8]
      omega
theorem pack_one {f : Nat → Int} {n : Nat} (hF : Fit12 f n 8) : ∀ m, m ≤ n → packN f n 8 m = clrL 1 f m
  | 0, _ => rfl
  | m + 1, h => by
    have hm := hF m (by omega)
    rw [p2_8] at hm
    rw [packN_next, clrL_next, pack_one hF m (by omega), packB8 hF (by omega), low1 _ hm.1 hm.2]
theorem pack_two {f : Nat → Int} {n : Nat} (hF : Fit12 f n 16) : ∀ m, m ≤ n → packN f n 16 (2 * m) = clrL 2 f m
  | 0, _ => rfl
  | m + 1, h => by
    have hm := hF m (by omega)
    obtain ⟨e0, e1⟩ := packB16 hF (show m < n by omega)
    rw [p16] at hm
    rw [show 2 * (m + 1) = 2 * m + 1 + 1 by omega, packN_next, packN_next, clrL_next, pack_two hF m (by omega), e0, e1, low2 _ hm.1 hm.2, List.append_assoc]
    rfl
theorem packL_one {f : Nat → Int} {n : Nat} (hF : Fit12 f n 8) : packL f n 8 = clrL 1 f n := by
  unfold packL
  rw [show (n * 8 + 7) / 8 = n by omega]
  exact pack_one hF n (Nat.le_refl _)
theorem packL_two {f : Nat → Int} {n : Nat} (hF : Fit12 f n 16) : packL f n 16 = clrL 2 f n := by
  unfold packL
  rw [show (n * 16 + 7) / 8 = 2 * n by omega]
  exact pack_two hF n (Nat.le_refl _)
theorem fit_wider {f : Nat → Int} {n a b : Nat} (h : Fit12 f n a) (hab : a ≤ b) : Fit12 f n b := fun i hi => ⟨(h i hi).1, Int.lt_of_lt_of_le (h i hi).2 (p2_le hab)⟩
theorem nums_app (a b : List Int) : strOfNums a ++ strOfNums b = strOfNums (a ++ b) := by
  refine ChunkMath.bx_ext ?_
  rw [ChunkMath.bx_app, strOfNums_data, strOfNums_data, strOfNums_data, List.map_append]
/-- How many bits a number of what is clear has in a file. -/
def clrD (c : Int) : Nat := if c = 3 then 8 else 16
theorem clear_fit {d c table : Int} {n : Nat} {f : Nat → Int} (hd : DepthR c d) (h : ClearR d c table n f) : Fit12 f n (clrD c) := by
  have h5 := five_range (depth_five hd)
  unfold clrD
  rcases h.2 with ⟨rfl, _, hf⟩ | ⟨rfl, _, hf⟩ | ⟨rfl, _, hf⟩
  · rw [if_neg (by omega)]
    exact fit_wider hf (by omega)
  · rw [if_neg (by omega)]
    exact fit_wider hf (by omega)
  · rw [if_pos rfl]
    exact hf
/-- What the program packs is the model's text. -/
theorem clear_packed {c : Int} {n : Nat} {f : Nat → Int} (hF : Fit12 f n (clrD c)) : packT f n (clrD c) = clrT c f n := by
  unfold packT clrT
  by_cases h : c = 3
  · have e : clrD c = 8 := if_pos h
    rw [e] at hF ⊢
    rw [if_pos h, packL_one hF]
  · have e : clrD c = 16 := if_neg h
    rw [e] at hF ⊢
    rw [if_neg h, packL_two hF]
/-- What ClearText answers. -/
def ClrPost (x y d c table : Int) (n : Nat) (f : Nat → Int) (w : World) (e : Ending) (w' : World) : Prop := (((HeadR x y d c ∧ ClearR d c table n f) ∧ e = .returned (.tuple #[.string (clrT c f n), .bool true])) ∨ (¬ (HeadR x y d c ∧ ClearR d c table n f) ∧ e = .returned (.tuple #[.string ⟨#[]⟩, .bool false]))) ∧ Below w.heap.size w w'
theorem clr_fix (x y d c table : Int) (n : Nat) (f : Nat → Int) : ∃ T b, (b = true → T = clrT c f n ∧ HeadR x y d c ∧ ClearR d c table n f) ∧ (b = false → T = ⟨#[]⟩ ∧ ¬ (HeadR x y d c ∧ ClearR d c table n f)) ∧ ∀ w e w', ClrPost x y d c table n f w e w' → e = .returned (.tuple #[.string T, .bool b]) ∧ Below w.heap.size w w' := by
  by_cases h : HeadR x y d c ∧ ClearR d c table n f
  · refine ⟨clrT c f n, true, fun _ => ⟨rfl, h⟩, (fun e => by cases e), fun w e w' hp => ⟨?_, hp.2⟩⟩
    rcases hp.1 with ⟨_, q⟩ | ⟨k, _⟩
    · exact q
    · exact absurd h k
  · refine ⟨⟨#[]⟩, false, (fun e => by cases e), fun _ => ⟨rfl, h⟩, fun w e w' hp => ⟨?_, hp.2⟩⟩
    rcases hp.1 with ⟨k, _⟩ | ⟨_, q⟩
    · exact absurd k h
    · exact q
end Go.Proofs.Ytkpbfmdnjnohlaa
