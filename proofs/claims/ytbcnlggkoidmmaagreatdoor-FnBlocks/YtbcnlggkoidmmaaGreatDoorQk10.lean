/-
  Plain facts on the lists of short codes: they are small. Nothing here speaks of the program.
  Plain facts on lengths that stay whole; nothing here speaks of the program.
  Plain facts on short codes, as the law FnPackage asks for them.
  More plain facts on short codes: the other lengths that the law FnPackage lays out.
  What the program's TokenLengths is to answer.
  A block of type 2, in plain numbers: the lengths of both codes, their Runs, the third code, and all its parts. Nothing here speaks of the program.
  The program's table of the order of the third code's lengths.
  The best of three blocks, in plain numbers; what the program's BestBlock is to answer.
-/
import Derived.Test.YtbcnlggkoidmmaaGreatDoorQk08
import Derived.Test.YtbcnlggkoidmmaaGreatDoorQk09
import Derived.Test.YtbcnlggkoidmmaaGreatDoorQk04
import Derived.Test.YtbcnlggkoidmmaaGreatDoorQk05
import Derived.Test.YtbcnlggkoidmmaaGreatDoorQk07
import Derived.Test.YtbcnlggkoidmmaaGreatDoorRows
import Derived.Test.YtbcnlggkoidmmaaGreatDoorQk02
import Derived.Test.YtbcnlggkoidmmaaGreatDoorQk06
import Derived.Test.YtbcnlggkoidmmaaGreatDoorQk01
import Derived.WalkKit
import Derived.Below
namespace Go.Proofs.YtbcnlggkoidmmaaGreatDoor
namespace PackageMath

theorem pairs_mem : ∀ (l : List Coin) (p : Coin), p ∈ pairs l → ∃ a b, a ∈ l ∧ b ∈ l ∧ p = pairOf a b
  | [], p, h => by simp [pairs] at h
  | [_], p, h => by simp [pairs] at h
  | a :: b :: l, p, h => by
    rcases List.mem_cons.mp h with rfl | h
    · exact ⟨a, b, by simp, by simp, rfl⟩
    · obtain ⟨c, d, h1, h2, h3⟩ := pairs_mem l p h
      exact ⟨c, d, by simp [h1], by simp [h2], h3⟩
/-- Weights of 12000 at most, lists of one symbol, doubled k times. -/
def SmallK (k : Nat) (x : Coin) : Prop := 0 ≤ x.1 ∧ x.1 ≤ 12000 * 2 ^ k ∧ 1 ≤ x.2.length ∧ x.2.length ≤ 2 ^ k
theorem lists_small {X : List Coin} (h : ∀ x ∈ X, SmallK 0 x) : ∀ k, ∀ x ∈ lists X k, SmallK k x
  | 0, x, hx => h x hx
  | k + 1, x, hx => by
    have e : (2 : Int) ^ (k + 1) = 2 ^ k * 2 := Int.pow_succ _ _
    have e2 : (2 : Nat) ^ (k + 1) = 2 ^ k * 2 := Nat.pow_succ _ _
    have q : (1 : Int) ≤ 2 ^ k := Int.pow_pos (by omega)
    have q2 : 1 ≤ (2 : Nat) ^ k := Nat.pow_pos (by omega)
    rcases merge_mem _ _ _ hx with hx | hx
    · obtain ⟨h1, h2, h3, h4⟩ := h x hx
      refine ⟨h1, ?_, h3, ?_⟩
      · rw [e]
        have : (2 : Int) ^ 0 = 1 := rfl
        omega
      · rw [e2]
        have : (2 : Nat) ^ 0 = 1 := rfl
        omega
    · obtain ⟨a, b, ha, hb, rfl⟩ := pairs_mem _ _ hx
      obtain ⟨a1, a2, a3, a4⟩ := lists_small h k a ha
      obtain ⟨b1, b2, b3, b4⟩ := lists_small h k b hb
      refine ⟨?_, ?_, ?_, ?_⟩
      · show 0 ≤ a.1 + b.1
        omega
      · show a.1 + b.1 ≤ _
        rw [e]
        omega
      · show 1 ≤ (a.2 ++ b.2).length
        rw [List.length_append]
        omega
      · show (a.2 ++ b.2).length ≤ _
        rw [List.length_append, e2]
        omega
theorem lists_short (X : List Coin) : ∀ k, (lists X k).length ≤ 2 * X.length
  | 0 => by show X.length ≤ _; omega
  | k + 1 => by
    have := lists_short X k
    rw [lists_length]
    omega
theorem first_small {c : Nat → Int} {n : Nat} (h : ∀ i, i < n → 0 ≤ c i ∧ c i ≤ 12000) : ∀ x ∈ firstL c n, SmallK 0 x := by
  intro x hx
  obtain ⟨i, hi, _, rfl⟩ := first_mem n x hx
  have := h i hi
  exact ⟨this.1, by show c i ≤ 12000 * 2 ^ 0; simp; omega, by simp, by simp⟩
theorem smallK_bd {k : Nat} {x : Coin} (hk : k ≤ 14) (h : SmallK k x) : 0 ≤ x.1 ∧ x.1 ≤ 1000000000 ∧ 1 ≤ x.2.length ∧ x.2.length ≤ 1000000 := by
  obtain ⟨h1, h2, h3, h4⟩ := h
  have p1 : (2 : Nat) ^ k ≤ 2 ^ 14 := Nat.pow_le_pow_right (by omega) hk
  have p2 : (2 : Int) ^ k ≤ 16384 := by
    have e : ((2 ^ k : Nat) : Int) = (2 : Int) ^ k := by norm_cast
    have : (2 : Nat) ^ 14 = 16384 := rfl
    omega
  have : (2 : Nat) ^ 14 = 16384 := rfl
  omega
/-- The symbols of a list of items all lie below n. -/
theorem lists_syms {X : List Coin} {n : Nat} (h : ∀ x ∈ X, ∀ s ∈ x.2, s < n) : ∀ k, ∀ x ∈ lists X k, ∀ s ∈ x.2, s < n
  | 0, x, hx => h x hx
  | k + 1, x, hx => by
    rcases merge_mem _ _ _ hx with hx | hx
    · exact h x hx
    · obtain ⟨a, b, ha, hb, rfl⟩ := pairs_mem _ _ hx
      intro s hs
      have hs' : s ∈ a.2 ++ b.2 := hs
      rcases List.mem_append.mp hs' with hs | hs
      · exact lists_syms h k a ha s hs
      · exact lists_syms h k b hb s hs
theorem first_syms {c : Nat → Int} {n : Nat} : ∀ x ∈ firstL c n, ∀ s ∈ x.2, s < n := by
  intro x hx s hs
  obtain ⟨i, hi, _, rfl⟩ := first_mem n x hx
  have : s = i := by simpa using hs
  omega

theorem cN_one (p : Nat → Bool) : ∀ n a, a < n → p a = true → 1 ≤ cN p n
  | 0, a, h, _ => by omega
  | n + 1, a, h, ha => by
    show 1 ≤ cN p n + (if p n = true then 1 else 0)
    by_cases e : a = n
    · subst e
      rw [if_pos ha]
      omega
    · have := cN_one p n a (by omega) ha
      omega
theorem cN_two (p : Nat → Bool) : ∀ n a b, a < n → b < n → a ≠ b → p a = true → p b = true → 2 ≤ cN p n
  | 0, a, b, h, _, _, _, _ => by omega
  | n + 1, a, b, ha, hb, hne, h1, h2 => by
    show 2 ≤ cN p n + (if p n = true then 1 else 0)
    by_cases e : a = n
    · subst e
      have := cN_one p a b (by omega) h2
      rw [if_pos h1]
      omega
    · by_cases e2 : b = n
      · subst e2
        have := cN_one p b a (by omega) h1
        rw [if_pos h2]
        omega
      · have := cN_two p n a b (by omega) (by omega) hne h1 h2
        omega
/-- How many of the first k are above 0. -/
def posN (f : Nat → Int) : Nat → Nat := cN fun i => decide (f i ≠ 0)
/-- What is limited: lengths of so many counts. -/
def LimitRight (f : Nat → Int) (n : Nat) (z : Int) : Prop := n ≤ 288 ∧ 1 ≤ z ∧ z ≤ 15 ∧ (∀ i, i < n → 0 ≤ f i ∧ f i ≤ 12000) ∧ (posN f n : Int) ≤ 2 ^ z.toNat
/-- The lengths. -/
def limLen (f : Nat → Int) (n : Nat) (z : Int) : Nat → Int := fun i => if posN f n = 0 then 0 else if posN f n = 1 then (if f i = 0 then 0 else 1) else lenS f n (z.toNat - 1) i

theorem lim_none {f : Nat → Int} {n : Nat} {z : Int} (h : posN f n = 0) (i : Nat) : (0 : Int) = limLen f n z i := by
  unfold limLen
  rw [if_pos h]
theorem lim_one {f : Nat → Int} {n s : Nat} {z : Int} (h : posN f n = 1) (hs : s < n) (hfs : f s ≠ 0) (i : Nat) (hi : i < n) : (if i = s then (1 : Int) else 0) = limLen f n z i := by
  have hl : limLen f n z i = if f i = 0 then 0 else 1 := by
    unfold limLen
    rw [if_neg (show ¬ posN f n = 0 by omega), if_pos h]
  rw [hl]
  by_cases e : i = s
  · subst e
    rw [if_pos rfl, if_neg hfs]
  · rw [if_neg e]
    by_cases hz : f i = 0
    · rw [if_pos hz]
    · exfalso
      have := cN_two (fun i => decide (f i ≠ 0)) n i s hi hs e (by simpa using hz) (by simpa using hfs)
      have h' : cN (fun i => decide (f i ≠ 0)) n = 1 := h
      omega
theorem lim_more {f : Nat → Int} {n z : Nat} (h : 2 ≤ posN f n) (i : Nat) : sm (ct i) ((lists (firstL f n) (z - 1)).take (2 * posN f n - 2)) = limLen f n (z : Int) i := by
  unfold limLen
  rw [if_neg (by omega), if_neg (by omega), Int.toNat_natCast]
  unfold lenS
  rw [first_length]
  rfl
end PackageMath
end Go.Proofs.YtbcnlggkoidmmaaGreatDoor

namespace Go.Proofs.YtbcnlggkoidmmaaGreatDoor
namespace RoomMath
open OutMath CodeMath

/-- Rooms of turned lengths. -/
def slot (z : Int) : Int := if 0 < z then p2 (15 - z).toNat else 0
theorem room_upd (f : Nat → Int) (k : Nat) (z : Int) : ∀ n, k < n → room (fun i => if i = k then z else f i) n = room f n - slot (f k) + slot z
  | 0, h => absurd h (Nat.not_lt_zero k)
  | n + 1, h => by
    have same : ∀ m, m ≤ k → room (fun i => if i = k then z else f i) m = room f m := by
      intro m hm
      induction m with
      | zero => rfl
      | succ m ih =>
        show room (fun i => if i = k then z else f i) m + (if 0 < (if m = k then z else f m) then p2 (15 - (if m = k then z else f m)).toNat else 0) = room f m + (if 0 < f m then p2 (15 - f m).toNat else 0)
        rw [ih (by omega), if_neg (show ¬ m = k by omega)]
    show room (fun i => if i = k then z else f i) n + (if 0 < (if n = k then z else f n) then p2 (15 - (if n = k then z else f n)).toNat else 0) = room f n + (if 0 < f n then p2 (15 - f n).toNat else 0) - slot (f k) + slot z
    by_cases e : n = k
    · subst e
      rw [same n (Nat.le_refl n), if_pos rfl]
      unfold slot
      omega
    · rw [room_upd f k z n (by omega), if_neg e]
      omega
/-- All lengths are there, and they are full. -/
def Whole (f : Nat → Int) (n : Nat) : Prop := (∀ i, i < n → 1 ≤ f i ∧ f i ≤ 15) ∧ room f n = 32768
end RoomMath
end Go.Proofs.YtbcnlggkoidmmaaGreatDoor

namespace Go.Proofs.YtbcnlggkoidmmaaGreatDoor
open OutMath CodeMath PackageMath

theorem two_split {z l : Nat} (hz : z ≤ 15) (hl : l ≤ z) : (2 : Int) ^ (15 - l) = 2 ^ (15 - z) * 2 ^ (z - l) := by
  rw [← Int.pow_add]
  congr 1
  omega
theorem room_scale (c l : Nat → Int) (z : Nat) (hz : z ≤ 15) : ∀ n : Nat, (∀ i, i < n → c i = 0 → l i = 0) → (∀ i, i < n → c i ≠ 0 → 1 ≤ l i ∧ l i ≤ (z : Int)) → room l n = 2 ^ (15 - z) * sumTo (fun i => if c i = 0 then 0 else (2 : Int) ^ (z - (l i).toNat)) n
  | 0, _, _ => by simp [room, sumTo]
  | n + 1, h0, h1 => by
    have h := room_scale c l z hz n (fun i hi => h0 i (by omega)) (fun i hi => h1 i (by omega))
    show room l n + (if 0 < l n then p2 (15 - l n).toNat else 0) = _ * (sumTo _ n + (if c n = 0 then 0 else (2 : Int) ^ (z - (l n).toNat)))
    rw [Int.mul_add, h]
    congr 1
    by_cases e : c n = 0
    · rw [if_pos e, if_neg (by rw [h0 n (by omega) e]; omega), Int.mul_zero]
    · have h2 := h1 n (by omega) e
      rw [if_neg e, if_pos (by omega), ← two_split hz (by omega)]
      unfold p2
      congr 1
      omega
section
variable {f : Nat → Int} {n : Nat} {z : Int}
theorem lim_pack (hR : LimitRight f n z) (h2 : 2 ≤ posN f n) :
    (∀ i, i < n → (f i = 0 → limLen f n z i = 0) ∧ (f i ≠ 0 → 1 ≤ limLen f n z i ∧ limLen f n z i ≤ z)) ∧
      sumTo (fun i => if f i = 0 then 0 else (2 : Int) ^ (z.toNat - (limLen f n z i).toNat)) n = 2 ^ z.toNat ∧
      (∀ l' : Nat → Int, (∀ i, i < n → f i ≠ 0 → 0 ≤ l' i ∧ l' i ≤ z) → sumTo (fun i => if f i = 0 then 0 else (2 : Int) ^ (z.toNat - (l' i).toNat)) n ≤ 2 ^ z.toNat →
        sumTo (fun i => f i * limLen f n z i) n ≤ sumTo (fun i => f i * l' i) n) := by
  obtain ⟨_, hz1, hz2, hf, hp⟩ := hR
  have e : limLen f n z = lenS f n (z.toNat - 1) := by
    funext i
    unfold limLen
    rw [if_neg (by omega), if_neg (by omega)]
  have hl : (firstL f n).length = posN f n := first_length f n
  have eK : z.toNat - 1 + 1 = z.toNat := by omega
  obtain ⟨_, g1, g2, g3⟩ := package_syms (c := f) (N := n) (fun i hi => (hf i hi).1) (z.toNat - 1) (by omega) (by rw [hl, eK]; exact hp)
  have ez : ((z.toNat - 1 : Nat) : Int) + 1 = z := by omega
  rw [ez] at g1 g3
  rw [eK] at g2 g3
  rw [e]
  exact ⟨g1, g2, g3⟩
theorem lim_shape (hR : LimitRight f n z) (i : Nat) (hi : i < n) : (f i = 0 → limLen f n z i = 0) ∧ (f i ≠ 0 → 1 ≤ limLen f n z i ∧ limLen f n z i ≤ z) := by
  by_cases h2 : 2 ≤ posN f n
  · exact (lim_pack hR h2).1 i hi
  · have hz := hR.2.1
    by_cases p0 : posN f n = 0
    · have q : ¬ f i ≠ 0 := fun h => by
        have := cN_one (fun i => decide (f i ≠ 0)) n i hi (by simpa using h)
        have p0' : cN (fun i => decide (f i ≠ 0)) n = 0 := p0
        omega
      exact ⟨fun _ => (lim_none p0 i).symm, fun h => absurd h q⟩
    · have e : limLen f n z i = if f i = 0 then 0 else 1 := by
        unfold limLen
        rw [if_neg p0, if_pos (by omega)]
      rw [e]
      refine ⟨fun h => if_pos h, fun h => ?_⟩
      rw [if_neg h]
      omega
theorem lim_whole (hR : LimitRight f n z) (h2 : 2 ≤ posN f n) : room (limLen f n z) n = 32768 := by
  have hs := lim_shape hR
  obtain ⟨_, g2, _⟩ := lim_pack hR h2
  obtain ⟨_, hz1, hz2, _⟩ := hR
  rw [room_scale f _ z.toNat (by omega) n (fun i hi => (hs i hi).1) (fun i hi h => by have := (hs i hi).2 h; omega), g2, ← Int.pow_add, show 15 - z.toNat + z.toNat = 15 by omega]
  decide
end

end Go.Proofs.YtbcnlggkoidmmaaGreatDoor

namespace Go.Proofs.YtbcnlggkoidmmaaGreatDoor
open OutMath CodeMath PackageMath

theorem room_none (f : Nat → Int) : ∀ n : Nat, cnt f n = 0 → room f n = 0 ∧ 0 ≤ cnt f n
  | 0, _ => by simp [room, cnt]
  | n + 1, h => by
    have hb : ∀ q, 0 ≤ cnt f q := by
      intro q
      induction q with
      | zero => simp [cnt]
      | succ q ih => unfold cnt; split <;> omega
    have h' : cnt f n + (if 0 < f n then 1 else 0) = 0 := h
    have hn := hb n
    by_cases e : 0 < f n
    · rw [if_pos e] at h'; omega
    · rw [if_neg e] at h'
      refine ⟨?_, by omega⟩
      show room f n + (if 0 < f n then p2 (15 - f n).toNat else 0) = 0
      rw [if_neg e, (room_none f n (by omega)).1]
      rfl
theorem whole_kind {f : Nat → Int} {n : Nat} {k : Int} (h : Kind f n k) (hn : n ≤ 288) (hf : OkLens f n) (hr : room f n = 32768) : k = 2 := by
  rcases h with ⟨_, h⟩ | ⟨_, _, h⟩
  · exact absurd ⟨hn, hf⟩ h
  · rw [h]
    unfold kindOf
    rw [if_neg (fun q => by have := (room_none f n q).1; omega), if_pos hr]

theorem room_congr {f g : Nat → Int} : ∀ n : Nat, (∀ i, i < n → f i = g i) → room f n = room g n
  | 0, _ => rfl
  | n + 1, h => by
    show room f n + _ = room g n + _
    rw [room_congr n (fun i hi => h i (by omega)), h n (by omega)]
theorem room_up (f : Nat → Int) (a : Nat) : ∀ d : Nat, room f a ≤ room f (a + d)
  | 0 => Int.le_refl _
  | d + 1 => by
    have h := room_up f a d
    have h2 := p2_pos (15 - f (a + d)).toNat
    show room f a ≤ room f (a + d) + (if 0 < f (a + d) then p2 (15 - f (a + d)).toNat else 0)
    split <;> omega
end Go.Proofs.YtbcnlggkoidmmaaGreatDoor

namespace Go.Proofs.YtbcnlggkoidmmaaGreatDoor
open Go.RowKit TokMath TrimMath TokLenMath PackageMath

theorem iown_cut {w : World} {base g n cap m : Nat} {f : Nat → Int} (h : IOwn w base g n cap f) (hm : m ≤ n) : IOwn w base g m cap f := by
  obtain ⟨cap', cur, fz, e, h1, h2, h3, h4, h5, h6, h7⟩ := h
  rw [fints_length] at e h4 h7
  cases e
  refine ⟨cap, cur, fz, by rw [fints_length], h1, h2, h3, by rw [fints_length]; omega, h5, h6, ?_⟩
  rw [fints_length]
  have e1 : (cur.toList.take n).take m = cur.toList.take m := by rw [List.take_take, Nat.min_eq_left hm]
  rw [← e1, h7]
  unfold fints
  rw [← List.map_take, List.take_range, Nat.min_eq_left hm]
theorem limit_right {f : Nat → Int} {n : Nat} (hn : n ≤ 288) (hf : ∀ i, 0 ≤ f i ∧ f i ≤ 12000) : LimitRight f n ((15 : Nat) : Int) := by
  refine ⟨hn, by omega, by omega, fun i _ => hf i, ?_⟩
  have := cN_le (fun i => decide (f i ≠ 0)) n
  unfold posN
  rw [show ((15 : Nat) : Int).toNat = 15 from rfl, show (2 : Int) ^ 15 = 32768 by decide]
  omega
/-- The lengths that TokenLengths tells, and how many. -/
def lenA (L : List Tok) : Nat → Int := limLen (cntA L) 286 15
def lenB (L : List Tok) : Nat → Int := limLen (cntB L) 30 15
def sizeA (L : List Tok) : Nat := trimN (lenA L) 257 286
def sizeB (L : List Tok) : Nat := trimN (lenB L) 1 30
def TokLenAnswer : Prop := ∀ (a : Option Addr) (c : Nat) (L : List Tok) (w : World), TCame w a L.length (fun j => L.getD j (0, 0, 0)) → L.length ≤ 1048576 →
    (TokensRight L → Calls Tryz.prog 36 #[.slice a L.length c] w fun e w' => ∃ a1 c1 a2 c2, e = .returned (.tuple #[.slice a1 (sizeA L) c1, .slice a2 (sizeB L) c2, .bool true]) ∧ SL w' w.heap.size a1 (sizeA L) c1 (lenA L) ∧ SL w' w.heap.size a2 (sizeB L) c2 (lenB L) ∧ a1 ≠ a2 ∧ Below w.heap.size w w') ∧
    (¬ TokensRight L → Calls Tryz.prog 36 #[.slice a L.length c] w fun e w' => e = .returned (.tuple #[.slice none 0 0, .slice none 0 0, .bool false]) ∧ Below w.heap.size w w')
end Go.Proofs.YtbcnlggkoidmmaaGreatDoor

namespace Go.Proofs.YtbcnlggkoidmmaaGreatDoor
namespace WovenMath
open OutMath TokMath StepMath CodeMath PackageMath RunsMath InfMath TrimMath TokLenMath BlockMath PartMath BodyMath

theorem room_ones (f : Nat → Int) : ∀ n, room (fun i => if f i = 0 then 0 else 1) n = 16384 * (posN f n : Int)
  | 0 => rfl
  | n + 1 => by
    have ih := room_ones f n
    have e : posN f (n + 1) = posN f n + (if decide (f n ≠ 0) = true then 1 else 0) := rfl
    show room (fun i => if f i = 0 then 0 else 1) n + (if 0 < (if f n = 0 then (0 : Int) else 1) then p2 (15 - (if f n = 0 then (0 : Int) else 1)).toNat else 0) = _
    rw [ih, e]
    by_cases h : f n = 0
    · rw [if_pos h, if_neg (by omega), if_neg (by simp [h])]
      omega
    · rw [if_neg h, if_pos (by omega), if_pos (by simp [h]), show p2 ((15 : Int) - 1).toNat = 16384 by decide +kernel]
      omega
theorem room_zero {f : Nat → Int} (h : ∀ i, f i = 0) : ∀ n, room f n = 0
  | 0 => rfl
  | n + 1 => by
    show room f n + (if 0 < f n then _ else 0) = 0
    rw [room_zero h n, h n, if_neg (by omega)]
    rfl
section
variable {f : Nat → Int} {n : Nat} {z : Int}
theorem lim_room (hR : LimitRight f n z) : room (limLen f n z) n ≤ 32768 := by
  by_cases h0 : posN f n = 0
  · rw [room_zero (fun i => (lim_none h0 i).symm) n]
    omega
  · by_cases h1 : posN f n = 1
    · have e : limLen f n z = fun i => if f i = 0 then 0 else 1 := by
        funext i
        unfold limLen
        rw [if_neg h0, if_pos h1]
      rw [e, room_ones, h1]
      omega
    · rw [lim_whole hR (by omega)]
      omega
theorem lim_coded (hR : LimitRight f n z) {m : Nat} (hm : m ≤ n) : Coded (limLen f n z) m := by
  refine ⟨by have := hR.1; omega, fun i hi => ?_, ?_⟩
  · have hs := lim_shape hR i (by omega)
    have hz := hR.2.2.1
    by_cases h : f i = 0
    · rw [hs.1 h]; omega
    · have := hs.2 h; omega
  · obtain ⟨d, rfl⟩ : ∃ d, n = m + d := ⟨n - m, by omega⟩
    have h1 := room_up (limLen f (m + d) z) m d
    have h2 := lim_room hR
    omega
end

theorem cntA_pos {L : List Tok} {t : Tok} (ht : t ∈ L) : cntA L (sym1 t) ≠ 0 := by
  unfold cntA
  have : 0 < (L.filter fun u => decide (sym1 u = sym1 t)).length := List.length_pos_of_mem (List.mem_filter.mpr ⟨ht, by simp⟩)
  split <;> omega
theorem cntB_pos {L : List Tok} {t : Tok} (ht : t ∈ L) (hy : t.2.1 ≠ 0) : cntB L (sym2 t) ≠ 0 := by
  unfold cntB
  have : 0 < (L.filter fun u => decide (u.2.1 ≠ 0 ∧ sym2 u = sym2 t)).length := List.length_pos_of_mem (List.mem_filter.mpr ⟨ht, by simp [hy]⟩)
  omega
section
variable {L : List Tok}
theorem limA (h : TokensRight L) : LimitRight (cntA L) 286 15 := limit_right (n := 286) (by omega) (fun i => cntA_le h.2 h.1 i)
theorem limB (h : TokensRight L) : LimitRight (cntB L) 30 15 := limit_right (n := 30) (by omega) (fun i => cntB_le h.1 i)
theorem sizeA_bd (L : List Tok) : 257 ≤ sizeA L ∧ sizeA L ≤ 286 := ⟨trimN_ge _ 257 286 (by omega), trimN_le _ _ _⟩
theorem sizeB_bd (L : List Tok) : 1 ≤ sizeB L ∧ sizeB L ≤ 30 := ⟨trimN_ge _ 1 30 (by omega), trimN_le _ _ _⟩
theorem codedA (h : TokensRight L) : Coded (lenA L) (sizeA L) := lim_coded (limA h) (sizeA_bd L).2
theorem codedB (h : TokensRight L) : Coded (lenB L) (sizeB L) := lim_coded (limB h) (sizeB_bd L).2
/-- The codes of TokenLengths can tell these tokens. -/
theorem woven_body (h : TokensRight L) : BodyOk (lenA L) (sizeA L) (lenB L) (sizeB L) L where
  c1 := codedA h
  e1 := by have := (sizeA_bd L).1; omega
  m2 := by have := (sizeB_bd L).2; omega
  w2 := (codedB h).2.1
  right := h.2
  s1 := fun t ht => by
    rcases Nat.lt_or_ge (sym1 t) (sizeA L) with q | q
    · exact q
    · have hl := (sym1_lt (h.2 t ht)).1
      have h0 := trimN_out (lenA L) 257 286 (sym1 t) q hl
      have h1 := (lim_shape (limA h) (sym1 t) hl).2 (cntA_pos ht)
      have h2 : limLen (cntA L) 286 15 (sym1 t) = 0 := h0
      omega
  s2 := fun t ht hy => by
    refine ⟨codedB h, ?_⟩
    rcases Nat.lt_or_ge (sym2 t) (sizeB L) with q | q
    · exact q
    · have hT := h.2 t ht
      have hl : sym2 t < 30 := by
        obtain ⟨x, y, z⟩ := t
        unfold TokRight at hT
        rw [if_neg hy] at hT
        have := dist_range (z := z) hT.2.2
        unfold sym2
        simp only []
        omega
      have h0 := trimN_out (lenB L) 1 30 (sym2 t) q hl
      have h1 := (lim_shape (limB h) (sym2 t) hl).2 (cntB_pos ht hy)
      have h2 : limLen (cntB L) 30 15 (sym2 t) = 0 := h0
      omega
end

/-- Both codes' lengths, one behind the other, and their Runs. -/
def fC (L : List Tok) (i : Nat) : Int := if i < sizeA L then lenA L i else lenB L (i - sizeA L)
def nC (L : List Tok) : Nat := sizeA L + sizeB L
theorem nC_le (L : List Tok) : nC L ≤ 316 := by
  have h1 := (sizeA_bd L).2
  have h2 := (sizeB_bd L).2
  unfold nC
  omega
theorem fineC {L : List Tok} (h : TokensRight L) : Fine (fC L) (nC L) := by
  intro i hi
  unfold fC
  split
  · rename_i q
    exact (codedA h).2.1 i q
  · exact (codedB h).2.1 _ (by unfold nC at hi; omega)
def runsW (L : List Tok) : List (Int × Int) := rest (fC L) (nC L) 0
theorem runsW_length (L : List Tok) : (runsW L).length ≤ 316 := by
  have h1 := rest_length (fC L) (nC L) _ 0 rfl
  have h2 := nC_le L
  unfold runsW
  omega
/-- A Run's symbol. -/
theorem runAt_sym {f : Nat → Int} {n i : Nat} (hf : Fine f n) (hi : i < n) : 0 ≤ (runAt f n i).1.1 ∧ (runAt f n i).1.1 ≤ 18 := by
  have h3 := hf i hi
  unfold runAt
  split
  · show (0 : Int) ≤ 18 ∧ (18 : Int) ≤ 18
    omega
  · split
    · show (0 : Int) ≤ 17 ∧ (17 : Int) ≤ 18
      omega
    · split
      · show (0 : Int) ≤ 16 ∧ (16 : Int) ≤ 18
        omega
      · show 0 ≤ f i ∧ f i ≤ 18
        omega
theorem rest_sym {f : Nat → Int} {n : Nat} (hf : Fine f n) : ∀ d i, n - i = d → ∀ r ∈ rest f n i, 0 ≤ r.1 ∧ r.1 ≤ 18 := by
  intro d
  induction d using Nat.strongRecOn with
  | ind d ih =>
    intro i hd r hr
    by_cases h : i < n
    · rw [rest_more h] at hr
      rcases List.mem_cons.mp hr with rfl | hr
      · exact runAt_sym hf h
      · have hp := runAt_pos f n i
        exact ih (n - (i + (runAt f n i).2)) (by omega) _ rfl r hr
    · rw [rest_none h] at hr
      cases hr
/-- How often each symbol of Runs comes. -/
def cntR (R : List (Int × Int)) (i : Nat) : Int := ((R.filter fun r => decide (r.1.toNat = i)).length : Int)
theorem cntR_bd (R : List (Int × Int)) (i : Nat) : 0 ≤ cntR R i ∧ cntR R i ≤ R.length := by
  unfold cntR
  have := List.length_filter_le (fun r : Int × Int => decide (r.1.toNat = i)) R
  omega
theorem cntR_pos {R : List (Int × Int)} {r : Int × Int} (h : r ∈ R) : cntR R r.1.toNat ≠ 0 := by
  unfold cntR
  have : 0 < (R.filter fun u => decide (u.1.toNat = r.1.toNat)).length := List.length_pos_of_mem (List.mem_filter.mpr ⟨h, by simp⟩)
  omega
theorem cntR_snoc (R : List (Int × Int)) (r : Int × Int) (i : Nat) : upd (cntR R) r.1.toNat (cntR R r.1.toNat + 1) i = cntR (R ++ [r]) i := by
  unfold upd cntR
  rw [List.filter_append, List.length_append]
  by_cases h : i = r.1.toNat
  · subst h
    rw [if_pos rfl]
    simp
  · rw [if_neg h]
    have : ¬ r.1.toNat = i := fun e => h e.symm
    simp [this]
theorem limR {R : List (Int × Int)} (hR : R.length ≤ 316) : LimitRight (cntR R) 19 7 := by
  refine ⟨by omega, by omega, by omega, fun i _ => ?_, ?_⟩
  · have := cntR_bd R i
    omega
  · have := cN_le (fun i => decide (cntR R i ≠ 0)) 19
    unfold posN
    rw [show (7 : Int).toNat = 7 from rfl, show (2 : Int) ^ 7 = 128 by decide]
    omega
/-- The third code's lengths; where just one has a length, a second one gets the length 1. -/
def th0 (R : List (Int × Int)) : Nat → Int := limLen (cntR R) 19 7
def third (R : List (Int × Int)) : Nat → Int := if kindOf (th0 R) 19 = 3 then (if th0 R 0 = 0 then upd (th0 R) 0 1 else upd (th0 R) 1 1) else th0 R
theorem room_upd {g : Nat → Int} {j : Nat} (h : g j = 0) : ∀ n, room (upd g j 1) n = room g n + (if j < n then 16384 else 0)
  | 0 => rfl
  | n + 1 => by
    have ih := room_upd h n
    show room (upd g j 1) n + (if 0 < upd g j 1 n then p2 (15 - upd g j 1 n).toNat else 0) = room g n + (if 0 < g n then p2 (15 - g n).toNat else 0) + _
    rw [ih]
    by_cases e : n = j
    · subst e
      have e1 : upd g n 1 n = 1 := if_pos rfl
      rw [e1, h, if_neg (show ¬ n < n by omega), if_pos (show (0 : Int) < 1 by omega), if_neg (show ¬ (0 : Int) < 0 by omega), if_pos (show n < n + 1 by omega), show p2 ((15 : Int) - 1).toNat = 16384 by decide +kernel]
      try omega
    · have e1 : upd g j 1 n = g n := if_neg e
      rw [e1]
      by_cases q : j < n
      · rw [if_pos q, if_pos (show j < n + 1 by omega)]
        omega
      · rw [if_neg q, if_neg (show ¬ j < n + 1 by omega)]
        omega
theorem cnt_mono (g : Nat → Int) (a : Nat) : ∀ d, CodeMath.cnt g a ≤ CodeMath.cnt g (a + d)
  | 0 => Int.le_refl _
  | d + 1 => by
    have := cnt_mono g a d
    show _ ≤ CodeMath.cnt g (a + d) + (if 0 < g (a + d) then 1 else 0)
    split <;> omega
theorem third_single {R : List (Int × Int)} (_hR : R.length ≤ 316) (hk : kindOf (th0 R) 19 = 3) : CodeMath.cnt (th0 R) 19 = 1 ∧ room (th0 R) 19 = 16384 := by
  unfold kindOf at hk
  split at hk
  · omega
  · split at hk
    · omega
    · split at hk
      · omega
      · split at hk
        · assumption
        · omega
theorem th0_ok {R : List (Int × Int)} (hR : R.length ≤ 316) (i : Nat) (hi : i < 19) : 0 ≤ th0 R i ∧ th0 R i ≤ 7 := by
  have hs := lim_shape (limR hR) i hi
  by_cases h : cntR R i = 0
  · have := hs.1 h
    unfold th0
    omega
  · have := hs.2 h
    unfold th0
    omega
theorem third_ok {R : List (Int × Int)} (hR : R.length ≤ 316) (i : Nat) (hi : i < 19) : 0 ≤ third R i ∧ third R i ≤ 7 := by
  have h0 := th0_ok hR i hi
  unfold third
  split
  · split
    · unfold upd
      split <;> omega
    · unfold upd
      split <;> omega
  · exact h0
theorem third_coded {R : List (Int × Int)} (hR : R.length ≤ 316) : Coded (third R) 19 := by
  refine ⟨by omega, fun i hi => by have := third_ok hR i hi; omega, ?_⟩
  have hl := lim_room (limR hR)
  unfold third
  split
  · rename_i hk
    obtain ⟨hc, hr⟩ := third_single hR hk
    split
    · rename_i h0
      rw [room_upd h0, hr, if_pos (by omega)]
      omega
    · rename_i h0
      have h1 : th0 R 1 = 0 := by
        have hm := cnt_mono (th0 R) 2 17
        rw [show 2 + 17 = 19 from rfl, hc] at hm
        have e2 : CodeMath.cnt (th0 R) 2 = (0 + (if 0 < th0 R 0 then 1 else 0)) + (if 0 < th0 R 1 then 1 else 0) := rfl
        rw [e2] at hm
        have a0 := th0_ok hR 0 (by omega)
        have a1 := th0_ok hR 1 (by omega)
        rw [if_pos (by omega)] at hm
        split at hm
        · omega
        · omega
      rw [room_upd h1, hr, if_pos (by omega)]
      omega
  · exact hl
/-- A symbol of the Runs has a length. -/
theorem third_has {R : List (Int × Int)} (hR : R.length ≤ 316) {r : Int × Int} (hr : r ∈ R) (h18 : 0 ≤ r.1 ∧ r.1 ≤ 18) : 0 < third R r.1.toNat := by
  have hs := (lim_shape (limR hR) r.1.toNat (by omega)).2 (cntR_pos hr)
  have h1 : 0 < th0 R r.1.toNat := by unfold th0; omega
  unfold third
  split
  · split
    · unfold upd
      split <;> omega
    · unfold upd
      split <;> omega
  · exact h1
/-- As they are told: in the order of chapter 8, without what is 0 at the end, but 4 at least. -/
def toldF (R : List (Int × Int)) (i : Nat) : Int := third R (orderL.getD i 0)
def toldN (R : List (Int × Int)) : Nat := trimN (toldF R) 4 19
theorem toldN_bd (R : List (Int × Int)) : 4 ≤ toldN R ∧ toldN R ≤ 19 := ⟨trimN_ge _ 4 19 (by omega), trimN_le _ _ _⟩
def toldP (R : List (Int × Int)) : List Part := (List.range (toldN R)).map fun i => (toldF R i, 3, false)
def runP (R : List (Int × Int)) (r : Int × Int) : List Part := [codeP (third R) 19 r.1.toNat, (r.2, bitsOf r.1, false)]
def runsP (R Q : List (Int × Int)) : List Part := Q.flatMap (runP R)
def wovenHead (L : List Tok) : List Part := [((sizeA L : Int) - 257, 5, false), ((sizeB L : Int) - 1, 5, false), ((toldN (runsW L) : Int) - 4, 4, false)]
/-- All that tells both codes. -/
def lensP (L : List Tok) : List Part := wovenHead L ++ toldP (runsW L) ++ runsP (runsW L) (runsW L)
/-- What WovenBlock comes to. -/
def wovenOut (s : ByteArray) (c : Int) (L : List Tok) (last : Bool) : Option (ByteArray × Nat) :=
  if TokensRight L then (outSt s c).bind fun o => bitsOut o (headBits 2 last ++ (partBits (lensP L) ++ bodyBits (lenA L) (sizeA L) (lenB L) (sizeB L) L)) else none
theorem order_lt (i : Nat) : orderL.getD i 0 < 19 := by
  rcases Nat.lt_or_ge i 19 with h | h
  · have : ∀ j, j < 19 → orderL.getD j 0 < 19 := by decide +kernel
    exact this i h
  · rw [List.getD_eq_getElem?_getD, List.getElem?_eq_none (by simpa [orderL] using h)]
    decide
theorem lensP_right {L : List Tok} (h : TokensRight L) : ∀ p ∈ lensP L, Right p := by
  intro p hp
  have hA := sizeA_bd L
  have hB := sizeB_bd L
  have hT := toldN_bd (runsW L)
  have hl := runsW_length L
  rcases List.mem_append.mp hp with hp | hp
  · rcases List.mem_append.mp hp with hp | hp
    · unfold wovenHead at hp
      simp only [List.mem_cons, List.not_mem_nil, or_false] at hp
      rcases hp with rfl | rfl | rfl
      · refine ⟨?_, ?_, ?_⟩ <;> simp only [] <;> omega
      · refine ⟨?_, ?_, ?_⟩ <;> simp only [] <;> omega
      · refine ⟨?_, ?_, ?_⟩ <;> simp only [] <;> omega
    · obtain ⟨i, _, rfl⟩ := List.mem_map.mp hp
      have := third_ok hl (orderL.getD i 0) (order_lt i)
      refine ⟨this.1, ?_, ?_⟩
      · show third _ _ ≤ 16777216
        omega
      · show 3 ≤ 24
        omega
  · obtain ⟨r, hr, hp⟩ := List.mem_flatMap.mp hp
    have hs := rest_sym (fineC h) _ 0 rfl r hr
    have hx := rest_fine (fineC h) _ 0 rfl r hr
    unfold runP at hp
    rcases List.mem_cons.mp hp with rfl | hp
    · exact codeP_right (third_coded hl) (by omega)
    · rw [List.mem_singleton] at hp
      subst hp
      have hb : bitsOf r.1 ≤ 7 := by
        unfold bitsOf
        split
        · omega
        · split
          · omega
          · split <;> omega
      have hpw : (2 : Int) ^ bitsOf r.1 ≤ 128 := by
        have : ∀ m : Nat, m ≤ 7 → (2 : Int) ^ m ≤ 128 := by decide +kernel
        exact this _ hb
      refine ⟨hx.1, ?_, ?_⟩ <;> simp only [] <;> omega
end WovenMath
end Go.Proofs.YtbcnlggkoidmmaaGreatDoor

namespace Go.Proofs.YtbcnlggkoidmmaaGreatDoor
open Go.RowKit Go.Joins InfMath

/-- The order of the third code's lengths lies in the program's table. -/
def OrderG (w : World) : Prop := 0 < w.heap.size ∧ ∀ i, i < 19 → w.cell? ⟨0, i, none⟩ = some (.int .i64 ((orderL.getD i 0 : Nat) : Int))
theorem OrderG.below {B : Nat} {w w' : World} (h : OrderG w) (hb : Below B w w') (hB : 0 < B) : OrderG w' :=
  ⟨Nat.lt_of_lt_of_le h.1 hb.size, fun i hi => (World.cell?_of_block (a := ⟨0, i, none⟩) (hb.block _ hB)).trans (h.2 i hi)⟩
end Go.Proofs.YtbcnlggkoidmmaaGreatDoor

namespace Go.Proofs.YtbcnlggkoidmmaaGreatDoor
open Go.RowKit TokMath WovenMath

/-- The truth value, the text and the number of bits of a block that may be none. -/
def blkB : Option (ByteArray × Nat) → Bool
  | some _ => true
  | none => false
def blkS : Option (ByteArray × Nat) → ByteArray
  | some o => o.1
  | none => ⟨#[]⟩
def blkN : Option (ByteArray × Nat) → Int
  | some o => (o.2 : Int)
  | none => 0
theorem blkAns_parts (o : Option (ByteArray × Nat)) : blkAns o = .tuple #[.agg #[.string (blkS o), .int .i64 (blkN o)], .bool (blkB o)] := by
  cases o <;> rfl
end Go.Proofs.YtbcnlggkoidmmaaGreatDoor
