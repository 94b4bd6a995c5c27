/-
  Plain facts on a merge that is made step by step; nothing here speaks of the program.
  Plain facts on an item put into a list by its place; nothing here speaks of the program.
  Plain facts on the lists of short codes: they are small. Nothing here speaks of the program.
  What the program's TokenLengths is to answer.
  A list of numbers, made.
  Plain facts on numbers for bits that are put; nothing here speaks of the program.
  What is handed back, by its number. Nothing here speaks of the program.
  The walk of the model's powers of two.
  The walk of the model's 'in least .. most'.
-/
import Derived.Test.YtbcnlggkoidmmaaPk05
import Derived.Test.YtbcnlggkoidmmaaPk06
import Derived.Test.YtbcnlggkoidmmaaRows
import Derived.Test.YtbcnlggkoidmmaaPk01
import Derived.Test.YtbcnlggkoidmmaaPk02
import Derived.Test.YtbcnlggkoidmmaaPk04
import Derived.WalkKit
import Derived.ProofKit
import Derived.WalkLawsBesides
import Derived.OwnWalk
import Derived.Laws.MakeOwn
import Derived.Lib.SmallJoins
import Derived.Laws.BitsAllLaws
import Derived.Deep.QuietTactic
import Derived.BigQuiet
namespace Go.Proofs.Ytbcnlggkoidmmaa
namespace PackageMath

theorem drop_cons {l : List Coin} {i : Nat} (h : i < l.length) : l.drop i = l.getD i (0, []) :: l.drop (i + 1) := by
  rw [List.drop_eq_getElem_cons h, List.getD_eq_getElem?_getD, List.getElem?_eq_getElem h]
  rfl
theorem pairs_drop : ∀ (t : Nat) (l : List Coin), (pairs l).drop t = pairs (l.drop (2 * t))
  | 0, l => by simp
  | t + 1, [] => by simp [pairs]
  | t + 1, [a] => by
    rw [show 2 * (t + 1) = 2 * t + 1 + 1 by omega]
    simp [pairs]
  | t + 1, a :: b :: l => by
    rw [show 2 * (t + 1) = 2 * t + 1 + 1 by omega]
    show (pairs l).drop t = pairs (l.drop (2 * t))
    exact pairs_drop t l
/-- The pair of two items. -/
def pairOf (a b : Coin) : Coin := (a.1 + b.1, a.2 ++ b.2)
theorem pairs_here {l : List Coin} {t : Nat} (h : 2 * t + 1 < l.length) : (pairs l).drop t = pairOf (l.getD (2 * t) (0, [])) (l.getD (2 * t + 1) (0, [])) :: (pairs l).drop (t + 1) := by
  rw [pairs_drop, pairs_drop, drop_cons (show 2 * t < l.length by omega), drop_cons (show 2 * t + 1 < l.length by omega), show 2 * (t + 1) = 2 * t + 1 + 1 by omega]
  rfl
theorem pairs_done {l : List Coin} {t : Nat} (h : ¬ 2 * t + 1 < l.length) : (pairs l).drop t = [] := by
  refine List.drop_eq_nil_of_le ?_
  rw [pairs_length]
  omega
/-- A symbol is taken. -/
theorem merge_x {X Y O M : List Coin} {i : Nat} {p : Coin} (hi : i < X.length) (hle : (X.getD i (0, [])).1 ≤ p.1) (h : O ++ merge (X.drop i) (p :: Y) = M) : O ++ [X.getD i (0, [])] ++ merge (X.drop (i + 1)) (p :: Y) = M := by
  rw [← h, drop_cons hi, merge_cons, if_pos hle, List.append_assoc]
  rfl
/-- A pair is taken. -/
theorem merge_y {X Y O M : List Coin} {i : Nat} {p : Coin} (hno : ¬ (i < X.length ∧ (X.getD i (0, [])).1 ≤ p.1)) (h : O ++ merge (X.drop i) (p :: Y) = M) : O ++ [p] ++ merge (X.drop i) Y = M := by
  rw [← h, List.append_assoc]
  congr 1
  by_cases hi : i < X.length
  · rw [drop_cons hi, merge_cons, if_neg (fun q => hno ⟨hi, q⟩)]
    rfl
  · rw [List.drop_eq_nil_of_le (by omega)]
    simp [merge]

end PackageMath
end Go.Proofs.Ytbcnlggkoidmmaa

namespace Go.Proofs.Ytbcnlggkoidmmaa
namespace PackageMath

theorem ins_at (x : Coin) : ∀ (O : List Coin) (k : Nat), Asc O → k ≤ O.length → (k = 0 ∨ (O.getD (k - 1) (0, [])).1 ≤ x.1) → (∀ q, k ≤ q → q < O.length → x.1 < (O.getD q (0, [])).1) → O.take k ++ [x] ++ O.drop k = ins x O
  | [], k, _, hk, _, _ => by
    obtain rfl : k = 0 := by simpa using hk
    rfl
  | y :: O, 0, _, _, _, h => by
    have h0 := h 0 (Nat.le_refl _) (by simp)
    have h0' : x.1 < y.1 := by simpa using h0
    unfold ins
    rw [if_neg (by omega)]
    rfl
  | y :: O, k + 1, hA, hk, hb, h => by
    have hle : y.1 ≤ x.1 := by
      rcases hb with hb | hb
      · omega
      · cases k with
        | zero => simpa using hb
        | succ k =>
          have hk' : k < O.length := by simp at hk; omega
          have hm := hA.2.1 (O[k]'hk') (List.getElem_mem _)
          have hb' : (O[k]'hk').1 ≤ x.1 := by
            have e : ((y :: O).getD (k + 1 + 1 - 1) (0, [])) = O[k]'hk' := by
              show (y :: O).getD (k + 1) (0, []) = _
              rw [List.getD_eq_getElem?_getD, List.getElem?_cons_succ, List.getElem?_eq_getElem hk']
              rfl
            rw [e] at hb
            exact hb
          omega
    have ih := ins_at x O k hA.2.2 (by simpa using hk) (by
      cases k with
      | zero => exact .inl rfl
      | succ k =>
        right
        rcases hb with hb | hb
        · omega
        · have e : ((y :: O).getD (k + 1 + 1 - 1) (0, [])) = O.getD (k + 1 - 1) (0, []) := by
            show (y :: O).getD (k + 1) (0, []) = O.getD k (0, [])
            rw [List.getD_eq_getElem?_getD, List.getElem?_cons_succ, List.getD_eq_getElem?_getD]
          rw [e] at hb
          exact hb) (fun q hq hl => by
      have := h (q + 1) (by omega) (by simp; omega)
      rw [List.getD_eq_getElem?_getD, List.getElem?_cons_succ] at this
      rw [List.getD_eq_getElem?_getD]
      exact this)
    unfold ins
    rw [if_pos hle, ← ih]
    rfl

end PackageMath
end Go.Proofs.Ytbcnlggkoidmmaa

namespace Go.Proofs.Ytbcnlggkoidmmaa
namespace PackageMath

theorem pairs_mem : ∀ (l : List Coin) (p : Coin), p ∈ pairs l → ∃ a b, a ∈ l ∧ b ∈ l ∧ p = pairOf a b
  | [], p, h => by simp [pairs] at h
  | [_], p, h => by simp [pairs] at h
  | a :: b :: l, p, h => by
    rcases List.mem_cons.mp h with rfl | h
    · exact ⟨a, b, by simp, by simp, rfl⟩
    · obtain ⟨c, d, h1, h2, h3⟩ := pairs_mem l p h
      exact ⟨c, d, by simp [h1], by simp [h2], h3⟩
/-- Weights of 12000 at most, lists of one symbol, doubled k times. -/
def SmallK (k : Nat) (x : Coin) : Prop := 0 ≤ x.1 ∧ x.1 ≤ 12000 * 2 ^ k ∧ 1 ≤ x.2.length ∧ x.2.length ≤ 2 ^ k
theorem lists_small {X : List Coin} (h : ∀ x ∈ X, SmallK 0 x) : ∀ k, ∀ x ∈ lists X k, SmallK k x
  | 0, x, hx => h x hx
  | k + 1, x, hx => by
    have e : (2 : Int) ^ (k + 1) = 2 ^ k * 2 := Int.pow_succ _ _
    have e2 : (2 : Nat) ^ (k + 1) = 2 ^ k * 2 := Nat.pow_succ _ _
    have q : (1 : Int) ≤ 2 ^ k := Int.pow_pos (by omega)
    have q2 : 1 ≤ (2 : Nat) ^ k := Nat.pow_pos (by omega)
    rcases merge_mem _ _ _ hx with hx | hx
    · obtain ⟨h1, h2, h3, h4⟩ := h x hx
      refine ⟨h1, ?_, h3, ?_⟩
      · rw [e]
        have : (2 : Int) ^ 0 = 1 := rfl
        omega
      · rw [e2]
        have : (2 : Nat) ^ 0 = 1 := rfl
        omega
    · obtain ⟨a, b, ha, hb, rfl⟩ := pairs_mem _ _ hx
      obtain ⟨a1, a2, a3, a4⟩ := lists_small h k a ha
      obtain ⟨b1, b2, b3, b4⟩ := lists_small h k b hb
      refine ⟨?_, ?_, ?_, ?_⟩
      · show 0 ≤ a.1 + b.1
        omega
      · show a.1 + b.1 ≤ _
        rw [e]
        omega
      · show 1 ≤ (a.2 ++ b.2).length
        rw [List.length_append]
        omega
      · show (a.2 ++ b.2).length ≤ _
        rw [List.length_append, e2]
        omega
theorem lists_short (X : List Coin) : ∀ k, (lists X k).length ≤ 2 * X.length
  | 0 => by show X.length ≤ _; omega
  | k + 1 => by
    have := lists_short X k
    rw [lists_length]
    omega
theorem first_small {c : Nat → Int} {n : Nat} (h : ∀ i, i < n → 0 ≤ c i ∧ c i ≤ 12000) : ∀ x ∈ firstL c n, SmallK 0 x := by
  intro x hx
  obtain ⟨i, hi, _, rfl⟩ := first_mem n x hx
  have := h i hi
  exact ⟨this.1, by show c i ≤ 12000 * 2 ^ 0; simp; omega, by simp, by simp⟩
theorem smallK_bd {k : Nat} {x : Coin} (hk : k ≤ 14) (h : SmallK k x) : 0 ≤ x.1 ∧ x.1 ≤ 1000000000 ∧ 1 ≤ x.2.length ∧ x.2.length ≤ 1000000 := by
  obtain ⟨h1, h2, h3, h4⟩ := h
  have p1 : (2 : Nat) ^ k ≤ 2 ^ 14 := Nat.pow_le_pow_right (by omega) hk
  have p2 : (2 : Int) ^ k ≤ 16384 := by
    have e : ((2 ^ k : Nat) : Int) = (2 : Int) ^ k := by norm_cast
    have : (2 : Nat) ^ 14 = 16384 := rfl
    omega
  have : (2 : Nat) ^ 14 = 16384 := rfl
  omega
/-- The symbols of a list of items all lie below n. -/
theorem lists_syms {X : List Coin} {n : Nat} (h : ∀ x ∈ X, ∀ s ∈ x.2, s < n) : ∀ k, ∀ x ∈ lists X k, ∀ s ∈ x.2, s < n
  | 0, x, hx => h x hx
  | k + 1, x, hx => by
    rcases merge_mem _ _ _ hx with hx | hx
    · exact h x hx
    · obtain ⟨a, b, ha, hb, rfl⟩ := pairs_mem _ _ hx
      intro s hs
      have hs' : s ∈ a.2 ++ b.2 := hs
      rcases List.mem_append.mp hs' with hs | hs
      · exact lists_syms h k a ha s hs
      · exact lists_syms h k b hb s hs
theorem first_syms {c : Nat → Int} {n : Nat} : ∀ x ∈ firstL c n, ∀ s ∈ x.2, s < n := by
  intro x hx s hs
  obtain ⟨i, hi, _, rfl⟩ := first_mem n x hx
  have : s = i := by simpa using hs
  omega

theorem cN_one (p : Nat → Bool) : ∀ n a, a < n → p a = true → 1 ≤ cN p n
  | 0, a, h, _ => by omega
  | n + 1, a, h, ha => by
    show 1 ≤ cN p n + (if p n = true then 1 else 0)
    by_cases e : a = n
    · subst e
      rw [if_pos ha]
      omega
    · have := cN_one p n a (by omega) ha
      omega
theorem cN_two (p : Nat → Bool) : ∀ n a b, a < n → b < n → a ≠ b → p a = true → p b = true → 2 ≤ cN p n
  | 0, a, b, h, _, _, _, _ => by omega
  | n + 1, a, b, ha, hb, hne, h1, h2 => by
    show 2 ≤ cN p n + (if p n = true then 1 else 0)
    by_cases e : a = n
    · subst e
      have := cN_one p a b (by omega) h2
      rw [if_pos h1]
      omega
    · by_cases e2 : b = n
      · subst e2
        have := cN_one p b a (by omega) h1
        rw [if_pos h2]
        omega
      · have := cN_two p n a b (by omega) (by omega) hne h1 h2
        omega
/-- How many of the first k are above 0. -/
def posN (f : Nat → Int) : Nat → Nat := cN fun i => decide (f i ≠ 0)
/-- What is limited: lengths of so many counts. -/
def LimitRight (f : Nat → Int) (n : Nat) (z : Int) : Prop := n ≤ 288 ∧ 1 ≤ z ∧ z ≤ 15 ∧ (∀ i, i < n → 0 ≤ f i ∧ f i ≤ 12000) ∧ (posN f n : Int) ≤ 2 ^ z.toNat
/-- The lengths. -/
def limLen (f : Nat → Int) (n : Nat) (z : Int) : Nat → Int := fun i => if posN f n = 0 then 0 else if posN f n = 1 then (if f i = 0 then 0 else 1) else lenS f n (z.toNat - 1) i

theorem lim_none {f : Nat → Int} {n : Nat} {z : Int} (h : posN f n = 0) (i : Nat) : (0 : Int) = limLen f n z i := by
  unfold limLen
  rw [if_pos h]
theorem lim_one {f : Nat → Int} {n s : Nat} {z : Int} (h : posN f n = 1) (hs : s < n) (hfs : f s ≠ 0) (i : Nat) (hi : i < n) : (if i = s then (1 : Int) else 0) = limLen f n z i := by
  have hl : limLen f n z i = if f i = 0 then 0 else 1 := by
    unfold limLen
    rw [if_neg (show ¬ posN f n = 0 by omega), if_pos h]
  rw [hl]
  by_cases e : i = s
  · subst e
    rw [if_pos rfl, if_neg hfs]
  · rw [if_neg e]
    by_cases hz : f i = 0
    · rw [if_pos hz]
    · exfalso
      have := cN_two (fun i => decide (f i ≠ 0)) n i s hi hs e (by simpa using hz) (by simpa using hfs)
      have h' : cN (fun i => decide (f i ≠ 0)) n = 1 := h
      omega
theorem lim_more {f : Nat → Int} {n z : Nat} (h : 2 ≤ posN f n) (i : Nat) : sm (ct i) ((lists (firstL f n) (z - 1)).take (2 * posN f n - 2)) = limLen f n (z : Int) i := by
  unfold limLen
  rw [if_neg (by omega), if_neg (by omega), Int.toNat_natCast]
  unfold lenS
  rw [first_length]
  rfl
/-- One symbol more is counted. -/
theorem ct_here (L : List Coin) (i k : Nat) (_hi : i < L.length) (hk : k < (L.getD i (0, [])).2.length) (s : Nat) (hs : s = (L.getD i (0, [])).2.getD k 0) (q : Nat) :
    (if q = s then (sm (ct s) (L.take i) + ((((L.getD i (0, [])).2.take k).count s : Nat) : Int)) + 1 else sm (ct q) (L.take i) + ((((L.getD i (0, [])).2.take k).count q : Nat) : Int)) = sm (ct q) (L.take i) + ((((L.getD i (0, [])).2.take (k + 1)).count q : Nat) : Int) := by
  have e : (L.getD i (0, [])).2.take (k + 1) = (L.getD i (0, [])).2.take k ++ [s] := by
    subst hs
    generalize (L.getD i (0, [])).2 = ps at hk ⊢
    rw [List.take_succ_eq_append_getElem hk, List.getD_eq_getElem?_getD, List.getElem?_eq_getElem hk]
    rfl
  rw [e, List.count_append]
  by_cases h : q = s
  · subst h
    rw [if_pos rfl]
    simp
    omega
  · rw [if_neg h]
    have : ([s] : List Nat).count q = 0 := List.count_eq_zero.mpr (by simpa using h)
    omega
theorem ct_done (L : List Coin) (i : Nat) (hi : i < L.length) (q : Nat) : sm (ct q) (L.take i) + ((((L.getD i (0, [])).2.take (L.getD i (0, [])).2.length).count q : Nat) : Int) = sm (ct q) (L.take (i + 1)) := by
  rw [List.take_of_length_le (Nat.le_refl _)]
  rw [sm_take (ct q) L i (by omega), sm_take (ct q) L (i + 1) (by omega)]
  rfl

end PackageMath
end Go.Proofs.Ytbcnlggkoidmmaa

namespace Go.Proofs.Ytbcnlggkoidmmaa
open Go.RowKit TokMath TrimMath TokLenMath PackageMath

theorem iown_cut {w : World} {base g n cap m : Nat} {f : Nat → Int} (h : IOwn w base g n cap f) (hm : m ≤ n) : IOwn w base g m cap f := by
  obtain ⟨cap', cur, fz, e, h1, h2, h3, h4, h5, h6, h7⟩ := h
  rw [fints_length] at e h4 h7
  cases e
  refine ⟨cap, cur, fz, by rw [fints_length], h1, h2, h3, by rw [fints_length]; omega, h5, h6, ?_⟩
  rw [fints_length]
  have e1 : (cur.toList.take n).take m = cur.toList.take m := by rw [List.take_take, Nat.min_eq_left hm]
  rw [← e1, h7]
  unfold fints
  rw [← List.map_take, List.take_range, Nat.min_eq_left hm]
theorem limit_right {f : Nat → Int} {n : Nat} (hn : n ≤ 288) (hf : ∀ i, 0 ≤ f i ∧ f i ≤ 12000) : LimitRight f n ((15 : Nat) : Int) := by
  refine ⟨hn, by omega, by omega, fun i _ => hf i, ?_⟩
  have := cN_le (fun i => decide (f i ≠ 0)) n
  unfold posN
  rw [show ((15 : Nat) : Int).toNat = 15 from rfl, show (2 : Int) ^ 15 = 32768 by decide]
  omega
/-- The lengths that TokenLengths tells, and how many. -/
def lenA (L : List Tok) : Nat → Int := limLen (cntA L) 286 15
def lenB (L : List Tok) : Nat → Int := limLen (cntB L) 30 15
def sizeA (L : List Tok) : Nat := trimN (lenA L) 257 286
def sizeB (L : List Tok) : Nat := trimN (lenB L) 1 30
def TokLenAnswer : Prop := ∀ (a : Option Addr) (c : Nat) (L : List Tok) (w : World), TCame w a L.length (fun j => L.getD j (0, 0, 0)) → L.length ≤ 1048576 →
    (TokensRight L → Calls Try.prog 9 #[.slice a L.length c] w fun e w' => ∃ a1 c1 a2 c2, e = .returned (.tuple #[.slice a1 (sizeA L) c1, .slice a2 (sizeB L) c2, .bool true]) ∧ SL w' w.heap.size a1 (sizeA L) c1 (lenA L) ∧ SL w' w.heap.size a2 (sizeB L) c2 (lenB L) ∧ a1 ≠ a2 ∧ Below w.heap.size w w') ∧
    (¬ TokensRight L → Calls Try.prog 9 #[.slice a L.length c] w fun e w' => e = .returned (.tuple #[.slice none 0 0, .slice none 0 0, .bool false]) ∧ Below w.heap.size w w')
end Go.Proofs.Ytbcnlggkoidmmaa

namespace Go.Proofs.Ytbcnlggkoidmmaa
open Go.RowKit Go.Joins

theorem info_made : (Try.prog.info? 3).map (fun i => (i.zero, i.size, i.bytes)) = some (some (.int .i64 0), 1, 8) := by kernel_rfl

end Go.Proofs.Ytbcnlggkoidmmaa

namespace Go.Proofs.Ytbcnlggkoidmmaa
namespace OutMath

/-- Two to the power n, behind a name. -/
def p2 (n : Nat) : Int := 2 ^ n
theorem p2_zero : p2 0 = 1 := by simp [p2]
theorem p2_succ (n : Nat) : p2 (n + 1) = 2 * p2 n := by unfold p2; rw [Int.pow_succ]; omega
theorem p2_pos : ∀ n, 1 ≤ p2 n
  | 0 => by simp [p2]
  | n + 1 => by have := p2_pos n; rw [p2_succ]; omega
theorem p2_mono (n : Nat) : ∀ m, p2 n ≤ p2 (n + m)
  | 0 => by simp
  | m + 1 => by have := p2_mono n m; have h := p2_pos (n + m); rw [← Nat.add_assoc, p2_succ]; omega
theorem p2_le {n m : Nat} (h : n ≤ m) : p2 n ≤ p2 m := by
  obtain ⟨k, rfl⟩ := Nat.exists_eq_add_of_le h
  exact p2_mono n k
theorem p2_61 {n : Nat} (h : n ≤ 61) : p2 n ≤ 2305843009213693952 := by
  have h1 := p2_le h
  have h2 : p2 61 = 2305843009213693952 := by decide +kernel
  omega
theorem p2_nat (n : Nat) : p2 n = ((2 ^ n : Nat) : Int) := by unfold p2; simp

/-- The last byte, 0 of an empty text. -/
def last (s : ByteArray) : Nat := (s.data[s.size - 1]?.getD 0).toNat
theorem last_at (s : ByteArray) (h : s.size - 1 < s.size) : (s[s.size - 1]'h).toNat = last s := by
  unfold last
  have h' : s.size - 1 < s.data.size := h
  rw [Array.getElem?_eq_getElem h']
  rfl
theorem last_lt (s : ByteArray) : last s < 256 := UInt8.toNat_lt _

/-- The number of bytes fits the number of bits. -/
def Fits (s : ByteArray) (c : Int) : Prop := s.size ≤ 12000 ∧ 0 ≤ c ∧ c ≤ 8 * s.size ∧ (c + 7) / 8 = s.size

/-- The bits of the last byte that were not put are 0. -/
def lastOk (s : ByteArray) (c : Int) : Bool := decide (((last s : Nat) : Int) < p2 (c % 8).toNat)

theorem lastOk_div (s : ByteArray) (c : Int) : lastOk s c = (((last s : Nat) : Int) / 2 ^ (c % 8).toNat == 0) := by
  unfold lastOk
  have e : p2 (c % 8).toNat = 2 ^ (c % 8).toNat := rfl
  have hp := p2_pos (c % 8).toNat
  rw [← e]
  generalize p2 (c % 8).toNat = q at *
  rw [Bool.eq_iff_iff]
  simp only [decide_eq_true_eq, beq_iff_eq]
  constructor
  · intro h; exact Int.ediv_eq_zero_of_lt (by omega) h
  · intro h
    have := Int.lt_mul_ediv_self_add (x := ((last s : Nat) : Int)) (show 0 < q by omega)
    rw [h] at this
    omega

/-- A right Out. -/
def outB (s : ByteArray) (c : Int) : Bool := decide (s.size ≤ 12000 ∧ 0 ≤ c ∧ c ≤ 8 * s.size ∧ (c + 7) / 8 = s.size) && (decide (c % 8 = 0) || lastOk s c)
theorem outB_no (s : ByteArray) (c : Int) (h : ¬ Fits s c) : outB s c = false := by
  have h' : ¬ (s.size ≤ 12000 ∧ 0 ≤ c ∧ c ≤ 8 * s.size ∧ (c + 7) / 8 = s.size) := h
  unfold outB
  rw [decide_eq_false h']
  rfl
theorem outB_fit0 (s : ByteArray) (c : Int) (h : Fits s c) (hc : c % 8 = 0) : outB s c = true := by
  have h' : s.size ≤ 12000 ∧ 0 ≤ c ∧ c ≤ 8 * s.size ∧ (c + 7) / 8 = s.size := h
  unfold outB
  rw [decide_eq_true h', decide_eq_true hc]
  rfl
theorem outB_fit1 (s : ByteArray) (c : Int) (h : Fits s c) (hc : ¬ c % 8 = 0) : outB s c = lastOk s c := by
  have h' : s.size ≤ 12000 ∧ 0 ≤ c ∧ c ≤ 8 * s.size ∧ (c + 7) / 8 = s.size := h
  unfold outB
  rw [decide_eq_true h', decide_eq_false hc]
  rfl
theorem fits_of_outB (s : ByteArray) (c : Int) (h : outB s c = true) : Fits s c := by
  refine Classical.byContradiction fun hn => ?_
  rw [outB_no s c hn] at h
  cases h

end OutMath
end Go.Proofs.Ytbcnlggkoidmmaa

namespace Go.Proofs.Ytbcnlggkoidmmaa
open Go.RowKit

theorem ret_i {k : IntKind} {a b : Int} (h : a = b) : Ending.returned (.int k a) = .returned (.int k b) := by rw [h]
theorem ret_b {a b : Bool} (h : a = b) : Ending.returned (.bool a) = .returned (.bool b) := by rw [h]

end Go.Proofs.Ytbcnlggkoidmmaa

namespace Go.Proofs.Ytbcnlggkoidmmaa
open Go.RowKit Go.Joins OutMath

set_option maxHeartbeats 400000 in
theorem pow_any (n : Nat) (w : World) (h : n ≤ 61) :
    Calls Try.prog 49 #[.int .i64 n] w fun e w' => e = .returned (.int .i64 (p2 n)) ∧ w' = w := by
  go_enter Try.func49, Try.ntmps49
  go_wp2
  go_loop [3, 4] (fun x i => ∃ j : Nat, j ≤ n ∧ i = .int .i64 j ∧ x = .int .i64 (p2 j)) (fun _ i => n - (intOf i).toNat)
  case atStart => exact ⟨0, Nat.zero_le _, rfl, by rw [p2_zero]⟩
  case round =>
    obtain ⟨j, hj, rfl, rfl⟩ := hrel
    have hp := p2_pos j
    have hq := p2_61 (n := j) (by omega)
    by_cases hlt : j < n
    · go_wp2
      go_round
      case rel => exact ⟨j + 1, by omega, by go_num, by rw [p2_succ]⟩
      case measure => simp [intOf]; omega
    · go_wp2
      go_ret
      exact ⟨ret_i (by rw [show j = n by omega]), rfl⟩

theorem pow_int (n : Int) (w : World) (h0 : 0 ≤ n) (h : n ≤ 61) :
    Calls Try.prog 49 #[.int .i64 n] w fun e w' => e = .returned (.int .i64 (p2 n.toNat)) ∧ w' = w := by
  obtain ⟨m, rfl⟩ := Int.eq_ofNat_of_zero_le h0
  exact pow_any m w (by omega)

end Go.Proofs.Ytbcnlggkoidmmaa

namespace Go.Proofs.Ytbcnlggkoidmmaa
open Go.RowKit

theorem in_yes (x a b : Int) (w : World) (h1 : a ≤ x) (h2 : x ≤ b) :
    Calls Try.prog 46 #[.int .i64 x, .int .i64 a, .int .i64 b] w fun e w' => e = .returned (.bool true) ∧ w' = w := by
  go_enter Try.func46, Try.ntmps46
  go_wp2
  go_ret
  exact ⟨rfl, rfl⟩

theorem in_no (x a b : Int) (w : World) (h : ¬ (a ≤ x ∧ x ≤ b)) :
    Calls Try.prog 46 #[.int .i64 x, .int .i64 a, .int .i64 b] w fun e w' => e = .returned (.bool false) ∧ w' = w := by
  by_cases h1 : a ≤ x
  · have h2 : ¬ x ≤ b := fun k => h ⟨h1, k⟩
    clear h
    go_enter Try.func46, Try.ntmps46
    go_wp2
    go_ret
    exact ⟨rfl, rfl⟩
  · clear h
    go_enter Try.func46, Try.ntmps46
    go_wp2
    go_ret
    exact ⟨rfl, rfl⟩

end Go.Proofs.Ytbcnlggkoidmmaa
