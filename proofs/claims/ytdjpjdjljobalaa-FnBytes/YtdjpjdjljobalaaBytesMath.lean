/-
  A number comes back from its bytes; nothing here speaks of the program.
-/
import Derived.Test.YtdjpjdjljobalaaOutMath
import Derived.Test.YtdjpjdjljobalaaBigMath
import Derived.Test.YtdjpjdjljobalaaBigTextMath
import Derived.WalkKit
namespace Go.Proofs.Ytdjpjdjljobalaa
namespace BytesMath
open OutMath BigMath BigTextMath

theorem q_eq (k : Nat) : q256 k = p2 (8 * k) := by
  induction k with
  | zero => rfl
  | succ k ih =>
    show q256 k * 256 = _
    rw [ih, show 8 * (k + 1) = 8 * k + 1 + 1 + 1 + 1 + 1 + 1 + 1 + 1 by omega]
    simp only [p2_succ]
    omega

theorem low_get (n : Int) : ∀ (k i : Nat), i < k → (low n k)[i]? = some (n / q256 (k - 1 - i) % 256)
  | 0, i, h => by omega
  | k + 1, 0, _ => by simp [low]
  | k + 1, i + 1, h => by
    simp only [low, List.getElem?_cons_succ]
    rw [low_get n k i (by omega), show k + 1 - 1 - (i + 1) = k - 1 - i by omega]

/-- The text between two bytes. -/
def wrapT (s : ByteArray) : ByteArray := ⟨#[120]⟩ ++ s ++ ⟨#[121]⟩
theorem wrapT_size (s : ByteArray) : (wrapT s).size = s.size + 2 := by
  unfold wrapT
  rw [ByteArray.size_append, ByteArray.size_append]
  show 1 + s.size + 1 = _
  omega
theorem wrapT_get (s : ByteArray) (i : Nat) (h : i < s.size) : (wrapT s).data[1 + i]? = s.data[i]? := by
  have hs : s.data.size = s.size := rfl
  unfold wrapT
  rw [ByteArray.data_append, ByteArray.data_append]
  rw [Array.getElem?_append_left (by simp; omega), Array.getElem?_append_right (by simp)]
  simp

theorem rb_back (n : Int) (k : Nat) (h0 : 0 ≤ n) (hn : n < q256 k) : ∀ j, j ≤ k → rb (wrapT (strOfNums (low n k))) 1 j = n / q256 (k - j)
  | 0, _ => by
    rw [Nat.sub_zero]
    show (0 : Int) = _
    exact (Int.ediv_eq_zero_of_lt h0 hn).symm
  | j + 1, h => by
    have hl : (strOfNums (low n k)).size = k := (strOfNums_size _).trans (low_length n k)
    have e : (wrapT (strOfNums (low n k))).data[1 + j]?.getD 0 = UInt8.ofNat (n / q256 (k - 1 - j) % 256).toNat := by
      rw [wrapT_get _ _ (by omega)]
      have : (strOfNums (low n k)).data[j]? = ((low n k)[j]?).map fun n => UInt8.ofNat n.toNat := by simp [strOfNums]
      rw [this, low_get n k j (by omega)]
      rfl
    show 256 * rb _ 1 j + (((wrapT (strOfNums (low n k))).data[1 + j]?.getD 0).toNat : Int) = _
    rw [rb_back n k h0 hn j (by omega), e]
    have hd := div_succ n (k - (j + 1))
    rw [show k - (j + 1) + 1 = k - j by omega] at hd
    rw [show k - 1 - j = k - (j + 1) by omega]
    have hp := div_nonneg n h0 (k - (j + 1))
    rw [← hd]
    generalize n / q256 (k - (j + 1)) = m at *
    have hb : (UInt8.ofNat (m % 256).toNat).toNat = (m % 256).toNat := by
      rw [UInt8.toNat_ofNat']
      omega
    rw [hb]
    omega

theorem rb_whole (n : Int) (k : Nat) (h0 : 0 ≤ n) (hn : n < p2 (8 * k)) : rb (wrapT (strOfNums (low n k))) 1 k = n := by
  rw [← q_eq] at hn
  rw [rb_back n k h0 hn k (Nat.le_refl _), Nat.sub_self]
  show n / 1 = n
  omega

end BytesMath
end Go.Proofs.Ytdjpjdjljobalaa
