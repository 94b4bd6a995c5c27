/-
  Plain facts on a merge that is made step by step; nothing here speaks of the program.
  Plain facts on an item put into a list by its place; nothing here speaks of the program.
-/
import Derived.Test.YtpecmolloohklaaPackageMath
import Derived.Test.YtpecmolloohklaaPackageSyms
import Derived.WalkKit
namespace Go.Proofs.Ytpecmolloohklaa
namespace PackageMath

theorem drop_cons {l : List Coin} {i : Nat} (h : i < l.length) : l.drop i = l.getD i (0, []) :: l.drop (i + 1) := by
  rw [List.drop_eq_getElem_cons h, List.getD_eq_getElem?_getD, List.getElem?_eq_getElem h]
  rfl
theorem pairs_drop : ∀ (t : Nat) (l : List Coin), (pairs l).drop t = pairs (l.drop (2 * t))
  | 0, l => by simp
  | t + 1, [] => by simp [pairs]
  | t + 1, [a] => by
    rw [show 2 * (t + 1) = 2 * t + 1 + 1 by omega]
    simp [pairs]
  | t + 1, a :: b :: l => by
    rw [show 2 * (t + 1) = 2 * t + 1 + 1 by omega]
    show (pairs l).drop t = pairs (l.drop (2 * t))
    exact pairs_drop t l
/-- The pair of two items. -/
def pairOf (a b : Coin) : Coin := (a.1 + b.1, a.2 ++ b.2)
theorem pairs_here {l : List Coin} {t : Nat} (h : 2 * t + 1 < l.length) : (pairs l).drop t = pairOf (l.getD (2 * t) (0, [])) (l.getD (2 * t + 1) (0, [])) :: (pairs l).drop (t + 1) := by
  rw [pairs_drop, pairs_drop, drop_cons (show 2 * t < l.length by omega), drop_cons (show 2 * t + 1 < l.length by omega), show 2 * (t + 1) = 2 * t + 1 + 1 by omega]
  rfl
theorem pairs_done {l : List Coin} {t : Nat} (h : ¬ 2 * t + 1 < l.length) : (pairs l).drop t = [] := by
  refine List.drop_eq_nil_of_le ?_
  rw [pairs_length]
  omega
/-- A symbol is taken. -/
theorem merge_x {X Y O M : List Coin} {i : Nat} {p : Coin} (hi : i < X.length) (hle : (X.getD i (0, [])).1 ≤ p.1) (h : O ++ merge (X.drop i) (p :: Y) = M) : O ++ [X.getD i (0, [])] ++ merge (X.drop (i + 1)) (p :: Y) = M := by
  rw [← h, drop_cons hi, merge_cons, if_pos hle, List.append_assoc]
  rfl
/-- A pair is taken. -/
theorem merge_y {X Y O M : List Coin} {i : Nat} {p : Coin} (hno : ¬ (i < X.length ∧ (X.getD i (0, [])).1 ≤ p.1)) (h : O ++ merge (X.drop i) (p :: Y) = M) : O ++ [p] ++ merge (X.drop i) Y = M := by
  rw [← h, List.append_assoc]
  congr 1
  by_cases hi : i < X.length
  · rw [drop_cons hi, merge_cons, if_neg (fun q => hno ⟨hi, q⟩)]
    rfl
  · rw [List.drop_eq_nil_of_le (by omega)]
    simp [merge]

end PackageMath
end Go.Proofs.Ytpecmolloohklaa

namespace Go.Proofs.Ytpecmolloohklaa
namespace PackageMath

theorem ins_at (x : Coin) : ∀ (O : List Coin) (k : Nat), Asc O → k ≤ O.length → (k = 0 ∨ (O.getD (k - 1) (0, [])).1 ≤ x.1) → (∀ q, k ≤ q → q < O.length → x.1 < (O.getD q (0, [])).1) → O.take k ++ [x] ++ O.drop k = ins x O
  | [], k, _, hk, _, _ => by
    obtain rfl : k = 0 := by simpa using hk
    rfl
  | y :: O, 0, _, _, _, h => by
    have h0 := h 0 (Nat.le_refl _) (by simp)
    have h0' : x.1 < y.1 := by simpa using h0
    unfold ins
    rw [if_neg (by omega)]
    rfl
  | y :: O, k + 1, hA, hk, hb, h => by
    have hle : y.1 ≤ x.1 := by
      rcases hb with hb | hb
      · omega
      · cases k with
        | zero => simpa using hb
        | succ k =>
          have hk' : k < O.length := by simp at hk; omega
          have hm := hA.2.1 (O[k]'hk') (List.getElem_mem _)
          have hb' : (O[k]'hk').1 ≤ x.1 := by
            have e : ((y :: O).getD (k + 1 + 1 - 1) (0, [])) = O[k]'hk' := by
              show (y :: O).getD (k + 1) (0, []) = _
              rw [List.getD_eq_getElem?_getD, List.getElem?_cons_succ, List.getElem?_eq_getElem hk']
              rfl
            rw [e] at hb
            exact hb
          omega
    have ih := ins_at x O k hA.2.2 (by simpa using hk) (by
      cases k with
      | zero => exact .inl rfl
      | succ k =>
        right
        rcases hb with hb | hb
        · omega
        · have e : ((y :: O).getD (k + 1 + 1 - 1) (0, [])) = O.getD (k + 1 - 1) (0, []) := by
            show (y :: O).getD (k + 1) (0, []) = O.getD k (0, [])
            rw [List.getD_eq_getElem?_getD, List.getElem?_cons_succ, List.getD_eq_getElem?_getD]
          rw [e] at hb
          exact hb) (fun q hq hl => by
      have := h (q + 1) (by omega) (by simp; omega)
      rw [List.getD_eq_getElem?_getD, List.getElem?_cons_succ] at this
      rw [List.getD_eq_getElem?_getD]
      exact this)
    unfold ins
    rw [if_pos hle, ← ih]
    rfl

end PackageMath
end Go.Proofs.Ytpecmolloohklaa
