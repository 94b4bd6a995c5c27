/-
  Plain facts on lengths that stay whole; nothing here speaks of the program.
-/
import Derived.Test.YtpecmolloohklaaOutMath
import Derived.Test.YtpecmolloohklaaCodeMath
import Derived.Test.YtpecmolloohklaaIntsLib
import Derived.WalkKit
namespace Go.Proofs.Ytpecmolloohklaa
namespace RoomMath
open OutMath CodeMath

/-- Rooms of turned lengths. -/
def slot (z : Int) : Int := if 0 < z then p2 (15 - z).toNat else 0
theorem room_upd (f : Nat → Int) (k : Nat) (z : Int) : ∀ n, k < n → room (fun i => if i = k then z else f i) n = room f n - slot (f k) + slot z
  | 0, h => absurd h (Nat.not_lt_zero k)
  | n + 1, h => by
    have same : ∀ m, m ≤ k → room (fun i => if i = k then z else f i) m = room f m := by
      intro m hm
      induction m with
      | zero => rfl
      | succ m ih =>
        show room (fun i => if i = k then z else f i) m + (if 0 < (if m = k then z else f m) then p2 (15 - (if m = k then z else f m)).toNat else 0) = room f m + (if 0 < f m then p2 (15 - f m).toNat else 0)
        rw [ih (by omega), if_neg (show ¬ m = k by omega)]
    show room (fun i => if i = k then z else f i) n + (if 0 < (if n = k then z else f n) then p2 (15 - (if n = k then z else f n)).toNat else 0) = room f n + (if 0 < f n then p2 (15 - f n).toNat else 0) - slot (f k) + slot z
    by_cases e : n = k
    · subst e
      rw [same n (Nat.le_refl n), if_pos rfl]
      unfold slot
      omega
    · rw [room_upd f k z n (by omega), if_neg e]
      omega
theorem slot_half (z : Int) (h0 : 1 ≤ z) (h1 : z < 15) : slot z = slot (z + 1) + slot (z + 1) := by
  unfold slot
  rw [if_pos (by omega), if_pos (by omega), show (15 - z).toNat = (15 - (z + 1)).toNat + 1 by omega, p2_succ]
  omega

/-- All lengths are there, and they are full. -/
def Whole (f : Nat → Int) (n : Nat) : Prop := (∀ i, i < n → 1 ≤ f i ∧ f i ≤ 15) ∧ room f n = 32768
theorem whole_start : Whole (fun _ => 1) 2 := ⟨fun _ _ => ⟨Int.le_refl 1, by show (1 : Int) ≤ 15; omega⟩, by decide +kernel⟩
theorem room_same (f g : Nat → Int) : ∀ n, (∀ i, i < n → f i = g i) → room f n = room g n
  | 0, _ => rfl
  | n + 1, h => by
    show room f n + (if 0 < f n then p2 (15 - f n).toNat else 0) = room g n + (if 0 < g n then p2 (15 - g n).toNat else 0)
    rw [room_same f g n (fun i hi => h i (by omega)), h n (by omega)]
theorem whole_split {f : Nat → Int} {n k : Nat} (h : Whole f n) (hk : k < n) (h15 : f k < 15) : Whole (upd (upd f k (f k + 1)) n (f k + 1)) (n + 1) := by
  obtain ⟨h1, h2⟩ := h
  have hkb := h1 k hk
  refine ⟨fun i hi => ?_, ?_⟩
  · unfold upd
    split
    · omega
    · split
      · omega
      · exact h1 i (by omega)
  · have e1 : room (upd (upd f k (f k + 1)) n (f k + 1)) n = room (upd f k (f k + 1)) n := room_same _ _ n (fun i hi => by unfold upd; rw [if_neg (show ¬ i = n by omega)])
    have e2 : room (upd f k (f k + 1)) n = room f n - slot (f k) + slot (f k + 1) := room_upd f k (f k + 1) n hk
    have e3 : upd (upd f k (f k + 1)) n (f k + 1) n = f k + 1 := by unfold upd; rw [if_pos rfl]
    show room (upd (upd f k (f k + 1)) n (f k + 1)) n + (if 0 < upd (upd f k (f k + 1)) n (f k + 1) n then p2 (15 - upd (upd f k (f k + 1)) n (f k + 1) n).toNat else 0) = 32768
    rw [e1, e2, e3, h2]
    have e4 := slot_half (f k) hkb.1 h15
    have e5 : (if 0 < f k + 1 then p2 (15 - (f k + 1)).toNat else 0) = slot (f k + 1) := rfl
    rw [e5]
    omega
theorem whole_swap {f : Nat → Int} {n i k : Nat} (h : Whole f n) (hi : i < n) (hk : k < n) : Whole (upd (upd f i (f k)) k (f i)) n := by
  obtain ⟨h1, h2⟩ := h
  refine ⟨fun q hq => ?_, ?_⟩
  · unfold upd
    split
    · exact h1 i hi
    · split
      · exact h1 k hk
      · exact h1 q hq
  · have e1 : room (upd (upd f i (f k)) k (f i)) n = room (upd f i (f k)) n - slot (upd f i (f k) k) + slot (f i) := room_upd _ k (f i) n hk
    have e2 : room (upd f i (f k)) n = room f n - slot (f i) + slot (f k) := room_upd f i (f k) n hi
    have e3 : upd f i (f k) k = f k := by
      unfold upd
      split
      · rfl
      · rfl
    rw [e1, e2, e3, h2]
    omega

end RoomMath
end Go.Proofs.Ytpecmolloohklaa
