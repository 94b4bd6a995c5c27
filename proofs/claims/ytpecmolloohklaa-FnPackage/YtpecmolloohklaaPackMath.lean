/-
  Plain facts on short codes, as the law FnPackage asks for them.
  More plain facts on short codes: the other lengths that the law FnPackage lays out.
-/
import Derived.Test.YtpecmolloohklaaOutMath
import Derived.Test.YtpecmolloohklaaCodeMath
import Derived.Test.YtpecmolloohklaaPackageMath
import Derived.Test.YtpecmolloohklaaPackageSyms
import Derived.Test.YtpecmolloohklaaLimitMath
import Derived.Test.YtpecmolloohklaaRoomMath
import Derived.WalkKit
namespace Go.Proofs.Ytpecmolloohklaa
open OutMath CodeMath PackageMath

theorem two_split {z l : Nat} (hz : z ≤ 15) (hl : l ≤ z) : (2 : Int) ^ (15 - l) = 2 ^ (15 - z) * 2 ^ (z - l) := by
  rw [← Int.pow_add]
  congr 1
  omega
theorem room_scale (c l : Nat → Int) (z : Nat) (hz : z ≤ 15) : ∀ n : Nat, (∀ i, i < n → c i = 0 → l i = 0) → (∀ i, i < n → c i ≠ 0 → 1 ≤ l i ∧ l i ≤ (z : Int)) → room l n = 2 ^ (15 - z) * sumTo (fun i => if c i = 0 then 0 else (2 : Int) ^ (z - (l i).toNat)) n
  | 0, _, _ => by simp [room, sumTo]
  | n + 1, h0, h1 => by
    have h := room_scale c l z hz n (fun i hi => h0 i (by omega)) (fun i hi => h1 i (by omega))
    show room l n + (if 0 < l n then p2 (15 - l n).toNat else 0) = _ * (sumTo _ n + (if c n = 0 then 0 else (2 : Int) ^ (z - (l n).toNat)))
    rw [Int.mul_add, h]
    congr 1
    by_cases e : c n = 0
    · rw [if_pos e, if_neg (by rw [h0 n (by omega) e]; omega), Int.mul_zero]
    · have h2 := h1 n (by omega) e
      rw [if_neg e, if_pos (by omega), ← two_split hz (by omega)]
      unfold p2
      congr 1
      omega
theorem cost_sum (l c : Nat → Int) : ∀ n : Nat, cost l c n = sumTo (fun i => c i * l i) n
  | 0 => rfl
  | n + 1 => by
    show cost l c n + c n * l n = sumTo _ n + c n * l n
    rw [cost_sum l c n]
theorem cost_le (l l' c : Nat → Int) : ∀ n : Nat, (∀ i, i < n → 0 ≤ c i) → (∀ i, i < n → c i ≠ 0 → l i ≤ l' i) → cost l c n ≤ cost l' c n
  | 0, _, _ => Int.le_refl _
  | n + 1, h0, h1 => by
    have h := cost_le l l' c n (fun i hi => h0 i (by omega)) (fun i hi => h1 i (by omega))
    show cost l c n + c n * l n ≤ cost l' c n + c n * l' n
    by_cases e : c n = 0
    · rw [e, Int.zero_mul, Int.zero_mul]; omega
    · have := Int.mul_le_mul_of_nonneg_left (h1 n (by omega) e) (h0 n (by omega))
      omega

section
variable {f : Nat → Int} {n : Nat} {z : Int}
theorem lim_pack (hR : LimitRight f n z) (h2 : 2 ≤ posN f n) :
    (∀ i, i < n → (f i = 0 → limLen f n z i = 0) ∧ (f i ≠ 0 → 1 ≤ limLen f n z i ∧ limLen f n z i ≤ z)) ∧
      sumTo (fun i => if f i = 0 then 0 else (2 : Int) ^ (z.toNat - (limLen f n z i).toNat)) n = 2 ^ z.toNat ∧
      (∀ l' : Nat → Int, (∀ i, i < n → f i ≠ 0 → 0 ≤ l' i ∧ l' i ≤ z) → sumTo (fun i => if f i = 0 then 0 else (2 : Int) ^ (z.toNat - (l' i).toNat)) n ≤ 2 ^ z.toNat →
        sumTo (fun i => f i * limLen f n z i) n ≤ sumTo (fun i => f i * l' i) n) := by
  obtain ⟨_, hz1, hz2, hf, hp⟩ := hR
  have e : limLen f n z = lenS f n (z.toNat - 1) := by
    funext i
    unfold limLen
    rw [if_neg (by omega), if_neg (by omega)]
  have hl : (firstL f n).length = posN f n := first_length f n
  have eK : z.toNat - 1 + 1 = z.toNat := by omega
  obtain ⟨_, g1, g2, g3⟩ := package_syms (c := f) (N := n) (fun i hi => (hf i hi).1) (z.toNat - 1) (by omega) (by rw [hl, eK]; exact hp)
  have ez : ((z.toNat - 1 : Nat) : Int) + 1 = z := by omega
  rw [ez] at g1 g3
  rw [eK] at g2 g3
  rw [e]
  exact ⟨g1, g2, g3⟩
theorem lim_shape (hR : LimitRight f n z) (i : Nat) (hi : i < n) : (f i = 0 → limLen f n z i = 0) ∧ (f i ≠ 0 → 1 ≤ limLen f n z i ∧ limLen f n z i ≤ z) := by
  by_cases h2 : 2 ≤ posN f n
  · exact (lim_pack hR h2).1 i hi
  · have hz := hR.2.1
    by_cases p0 : posN f n = 0
    · have q : ¬ f i ≠ 0 := fun h => by
        have := cN_one (fun i => decide (f i ≠ 0)) n i hi (by simpa using h)
        have p0' : cN (fun i => decide (f i ≠ 0)) n = 0 := p0
        omega
      exact ⟨fun _ => (lim_none p0 i).symm, fun h => absurd h q⟩
    · have e : limLen f n z i = if f i = 0 then 0 else 1 := by
        unfold limLen
        rw [if_neg p0, if_pos (by omega)]
      rw [e]
      refine ⟨fun h => if_pos h, fun h => ?_⟩
      rw [if_neg h]
      omega
theorem lim_whole (hR : LimitRight f n z) (h2 : 2 ≤ posN f n) : room (limLen f n z) n = 32768 := by
  have hs := lim_shape hR
  obtain ⟨_, g2, _⟩ := lim_pack hR h2
  obtain ⟨_, hz1, hz2, _⟩ := hR
  rw [room_scale f _ z.toNat (by omega) n (fun i hi => (hs i hi).1) (fun i hi h => by have := (hs i hi).2 h; omega), g2, ← Int.pow_add, show 15 - z.toNat + z.toNat = 15 by omega]
  decide
theorem lim_best (hR : LimitRight f n z) (l' : Nat → Int) (h0 : ∀ i, i < n → f i = 0 → l' i = 0) (h1 : ∀ i, i < n → f i ≠ 0 → 1 ≤ l' i ∧ l' i ≤ z) (hr : room l' n ≤ 32768) : cost (limLen f n z) f n ≤ cost l' f n := by
  by_cases h2 : 2 ≤ posN f n
  · obtain ⟨_, _, g3⟩ := lim_pack hR h2
    obtain ⟨_, hz1, hz2, _⟩ := hR
    rw [cost_sum, cost_sum]
    refine g3 l' (fun i hi h => by have := h1 i hi h; omega) ?_
    rw [room_scale f l' z.toNat (by omega) n h0 (fun i hi h => by have := h1 i hi h; omega)] at hr
    have e : (32768 : Int) = 2 ^ (15 - z.toNat) * 2 ^ z.toNat := by
      rw [← Int.pow_add, show 15 - z.toNat + z.toNat = 15 by omega]
      decide
    rw [e] at hr
    exact Int.le_of_mul_le_mul_left hr (Int.pow_pos (by decide))
  · refine cost_le _ _ _ n (fun i hi => (hR.2.2.2.1 i hi).1) (fun i hi h => ?_)
    have h3 := h1 i hi h
    have h4 : limLen f n z i ≤ 1 := by
      unfold limLen
      by_cases p0 : posN f n = 0
      · rw [if_pos p0]; omega
      · rw [if_neg p0, if_pos (by omega), if_neg h]; omega
    omega
end

end Go.Proofs.Ytpecmolloohklaa

namespace Go.Proofs.Ytpecmolloohklaa
open OutMath CodeMath PackageMath

theorem room_none (f : Nat → Int) : ∀ n : Nat, cnt f n = 0 → room f n = 0 ∧ 0 ≤ cnt f n
  | 0, _ => by simp [room, cnt]
  | n + 1, h => by
    have hb : ∀ q, 0 ≤ cnt f q := by
      intro q
      induction q with
      | zero => simp [cnt]
      | succ q ih => unfold cnt; split <;> omega
    have h' : cnt f n + (if 0 < f n then 1 else 0) = 0 := h
    have hn := hb n
    by_cases e : 0 < f n
    · rw [if_pos e] at h'; omega
    · rw [if_neg e] at h'
      refine ⟨?_, by omega⟩
      show room f n + (if 0 < f n then p2 (15 - f n).toNat else 0) = 0
      rw [if_neg e, (room_none f n (by omega)).1]
      rfl
theorem whole_kind {f : Nat → Int} {n : Nat} {k : Int} (h : Kind f n k) (hn : n ≤ 288) (hf : OkLens f n) (hr : room f n = 32768) : k = 2 := by
  rcases h with ⟨_, h⟩ | ⟨_, _, h⟩
  · exact absurd ⟨hn, hf⟩ h
  · rw [h]
    unfold kindOf
    rw [if_neg (fun q => by have := (room_none f n q).1; omega), if_pos hr]

theorem cost_nonneg (l c : Nat → Int) : ∀ n : Nat, (∀ i, i < n → 0 ≤ c i ∧ 0 ≤ l i) → 0 ≤ cost l c n
  | 0, _ => Int.le_refl _
  | n + 1, h => by
    have h1 := cost_nonneg l c n (fun i hi => h i (by omega))
    have h2 := Int.mul_nonneg (h n (by omega)).1 (h n (by omega)).2
    show 0 ≤ cost l c n + c n * l n
    omega
theorem cost_pos (l c : Nat → Int) : ∀ n : Nat, (∀ i, i < n → 0 ≤ c i ∧ (c i = 0 → l i = 0) ∧ (c i ≠ 0 → 1 ≤ l i)) → 1 ≤ posN c n → 0 < cost l c n
  | 0, _, h => by
    have : posN c 0 = 0 := rfl
    omega
  | n + 1, h, hp => by
    have hn := h n (by omega)
    have hall : ∀ i, i < n → 0 ≤ c i ∧ 0 ≤ l i := fun i hi => by
      have hq := h i (by omega)
      refine ⟨hq.1, ?_⟩
      by_cases e : c i = 0
      · rw [hq.2.1 e]; omega
      · have := hq.2.2 e; omega
    have h0 := cost_nonneg l c n hall
    show 0 < cost l c n + c n * l n
    by_cases e : c n = 0
    · have hp' : 1 ≤ posN c n := by
        have q : posN c (n + 1) = posN c n + (if decide (c n ≠ 0) = true then 1 else 0) := rfl
        rw [if_neg (by simpa using e)] at q
        omega
      have := cost_pos l c n (fun i hi => h i (by omega)) hp'
      rw [e, Int.zero_mul]
      omega
    · have := Int.mul_pos (show 0 < c n by omega) (show 0 < l n by have := hn.2.2 e; omega)
      omega

/-- The other lengths, once the first j places are passed: the n-th count above 0 has the n-th length. -/
def othL (c wh : Nat → Int) (m j : Nat) : Nat → Int := fun i => if i < j ∧ c i ≠ 0 ∧ posN c i < m then wh (posN c i) else 0
theorem posN_up (c : Nat → Int) (j : Nat) : posN c (j + 1) = posN c j + (if c j = 0 then 0 else 1) := by
  have q : posN c (j + 1) = posN c j + (if decide (c j ≠ 0) = true then 1 else 0) := rfl
  rw [q]
  by_cases e : c j = 0
  · rw [if_neg (by simpa using e), if_pos e]
  · rw [if_pos (by simpa using e), if_neg e]
theorem oth_skip (c wh : Nat → Int) (m j : Nat) (h : c j = 0 ∨ m ≤ posN c j) (i : Nat) : othL c wh m j i = othL c wh m (j + 1) i := by
  unfold othL
  by_cases e : i = j
  · subst e
    rw [if_neg (by omega), if_neg (by omega)]
  · by_cases q : i < j ∧ c i ≠ 0 ∧ posN c i < m
    · rw [if_pos q, if_pos (by omega)]
    · rw [if_neg q, if_neg (by omega)]
theorem oth_here (c wh : Nat → Int) (m j : Nat) (h : c j ≠ 0) (h2 : posN c j < m) (i : Nat) : (if i = j then wh (posN c j) else othL c wh m j i) = othL c wh m (j + 1) i := by
  unfold othL
  by_cases e : i = j
  · subst e
    rw [if_pos rfl, if_pos (by omega)]
  · rw [if_neg e]
    by_cases q : i < j ∧ c i ≠ 0 ∧ posN c i < m
    · rw [if_pos q, if_pos (by omega)]
    · rw [if_neg q, if_neg (by omega)]
theorem room_congr {f g : Nat → Int} : ∀ n : Nat, (∀ i, i < n → f i = g i) → room f n = room g n
  | 0, _ => rfl
  | n + 1, h => by
    show room f n + _ = room g n + _
    rw [room_congr n (fun i hi => h i (by omega)), h n (by omega)]
theorem room_up (f : Nat → Int) (a : Nat) : ∀ d : Nat, room f a ≤ room f (a + d)
  | 0 => Int.le_refl _
  | d + 1 => by
    have h := room_up f a d
    have h2 := p2_pos (15 - f (a + d)).toNat
    show room f a ≤ room f (a + d) + (if 0 < f (a + d) then p2 (15 - f (a + d)).toNat else 0)
    split <;> omega
theorem oth_room (c wh : Nat → Int) (m N : Nat) : ∀ j : Nat, j ≤ N → room (othL c wh m N) j = room wh (if posN c j < m then posN c j else m)
  | 0, _ => by
    have : posN c 0 = 0 := rfl
    rw [this]
    by_cases e : 0 < m
    · rw [if_pos e]; rfl
    · rw [if_neg e, show m = 0 by omega]; rfl
  | j + 1, h => by
    have ih := oth_room c wh m N j (by omega)
    show room _ j + (if 0 < othL c wh m N j then p2 (15 - othL c wh m N j).toNat else 0) = _
    rw [ih]
    by_cases e : c j = 0
    · have q : othL c wh m N j = 0 := if_neg (by omega)
      rw [q, if_neg (show ¬ (0 : Int) < 0 by omega), posN_up, if_pos e, Int.add_zero, Nat.add_zero]
    · by_cases e2 : posN c j < m
      · have q : othL c wh m N j = wh (posN c j) := if_pos (by omega)
        rw [q, posN_up, if_neg e, if_pos e2]
        have e3 : (if posN c j + 1 < m then posN c j + 1 else m) = posN c j + 1 := by split <;> omega
        rw [e3]
        rfl
      · have q : othL c wh m N j = 0 := if_neg (by omega)
        rw [q, if_neg (show ¬ (0 : Int) < 0 by omega), posN_up, if_neg e, if_neg e2, if_neg (by omega), Int.add_zero]
theorem oth_not_over (c wh : Nat → Int) (m N : Nat) (h : room wh m = 32768) : room (othL c wh m N) N ≤ 32768 := by
  rw [oth_room c wh m N N (Nat.le_refl _), ← h]
  by_cases e : posN c N < m
  · rw [if_pos e]
    have := room_up wh (posN c N) (m - posN c N)
    rw [show posN c N + (m - posN c N) = m by omega] at this
    exact this
  · rw [if_neg e]
    exact Int.le_refl _

end Go.Proofs.Ytpecmolloohklaa
