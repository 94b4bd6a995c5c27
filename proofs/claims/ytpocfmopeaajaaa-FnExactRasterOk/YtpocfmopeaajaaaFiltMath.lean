/-
  Filters in plain numbers: what is foretold of a byte, a row filtered and back, weights, the lightest kind (P13). Nothing here speaks of the program.
-/
import Derived.Test.YtpocfmopeaajaaaOutMath
import Derived.Test.YtpocfmopeaajaaaTakeMath
import Derived.WalkKit
namespace Go.Proofs.Ytpocfmopeaajaaa
namespace FiltMath
open TakeMath

def siz (x : Int) : Int := if x < 0 then -x else x
/-- The one of three that is nearest to a + b - c. -/
def paeth (a b c : Int) : Int :=
  if siz (a + b - c - a) ≤ siz (a + b - c - b) ∧ siz (a + b - c - a) ≤ siz (a + b - c - c) then a else if siz (a + b - c - b) ≤ siz (a + b - c - c) then b else c
abbrev PR (x : Int) : Prop := -1000 ≤ x ∧ x ≤ 1000
def paethV (a b c : Int) : Int := if PR a ∧ PR b ∧ PR c then paeth a b c else 0
theorem paeth_one (a b c : Int) : paeth a b c = a ∨ paeth a b c = b ∨ paeth a b c = c := by
  unfold paeth
  split
  · exact .inl rfl
  · split
    · exact .inr (.inl rfl)
    · exact .inr (.inr rfl)
theorem paeth_near (a b c : Int) : siz (a + b - c - paeth a b c) ≤ siz (a + b - c - a) ∧ siz (a + b - c - paeth a b c) ≤ siz (a + b - c - b) ∧ siz (a + b - c - paeth a b c) ≤ siz (a + b - c - c) := by
  unfold paeth
  by_cases h : siz (a + b - c - a) ≤ siz (a + b - c - b) ∧ siz (a + b - c - a) ≤ siz (a + b - c - c)
  · rw [if_pos h]
    exact ⟨Int.le_refl _, h.1, h.2⟩
  · rw [if_neg h]
    by_cases h2 : siz (a + b - c - b) ≤ siz (a + b - c - c)
    · rw [if_pos h2]
      omega
    · rw [if_neg h2]
      omega
theorem paeth_byte {a b c : Int} (ha : 0 ≤ a ∧ a < 256) (hb : 0 ≤ b ∧ b < 256) (hc : 0 ≤ c ∧ c < 256) : 0 ≤ paeth a b c ∧ paeth a b c < 256 := by
  rcases paeth_one a b c with h | h | h <;> rw [h] <;> assumption
/-- What a kind foretells of a byte, by the byte ahead, the one above and the one above that ahead. -/
def told (k a b c : Int) : Int := if k = 1 then a else if k = 2 then b else if k = 3 then (a + b) / 2 else if k = 4 then paeth a b c else 0
theorem told_byte (k : Int) {a b c : Int} (ha : 0 ≤ a ∧ a < 256) (hb : 0 ≤ b ∧ b < 256) (hc : 0 ≤ c ∧ c < 256) : 0 ≤ told k a b c ∧ told k a b c < 256 := by
  unfold told
  have := paeth_byte ha hb hc
  split
  · exact ha
  split
  · exact hb
  split
  · omega
  split
  · exact this
  · omega
/-- The byte that many places ahead; 0 where there is none. -/
def aheadB (r : Nat → Int) (unit at_ : Nat) : Int := if unit ≤ at_ then r (at_ - unit) else 0
theorem ahead_byte {r : Nat → Int} (h : ∀ i, 0 ≤ r i ∧ r i < 256) (u i : Nat) : 0 ≤ aheadB r u i ∧ aheadB r u i < 256 := by
  unfold aheadB
  split
  · exact h _
  · omega
def says (k : Int) (r u : Nat → Int) (unit i : Nat) : Int := told k (aheadB r unit i) (u i) (aheadB u unit i)
theorem says_byte (k : Int) {r u : Nat → Int} (hr : ∀ i, 0 ≤ r i ∧ r i < 256) (hu : ∀ i, 0 ≤ u i ∧ u i < 256) (unit i : Nat) : 0 ≤ says k r u unit i ∧ says k r u unit i < 256 :=
  told_byte k (ahead_byte hr _ _) (hu i) (ahead_byte hu _ _)
theorem says_congr (k : Int) {r r' u : Nat → Int} {unit i : Nat} (h1 : 1 ≤ unit) (h : ∀ j, j < i → r j = r' j) : says k r u unit i = says k r' u unit i := by
  unfold says aheadB
  by_cases hq : unit ≤ i
  · simp only [if_pos hq]
    rw [h (i - unit) (by omega)]
  · simp only [if_neg hq]
/-- A row filtered. -/
def filtB (k : Int) (r u : Nat → Int) (unit i : Nat) : Int := (r i + 256 - says k r u unit i) % 256
def filtL (k : Int) (r u : Nat → Int) (unit n : Nat) : List Int := (List.range n).map (filtB k r u unit)
theorem filtB_byte (k : Int) (r u : Nat → Int) (unit i : Nat) : 0 ≤ filtB k r u unit i ∧ filtB k r u unit i < 256 := by unfold filtB; omega
theorem filtL_next (k : Int) (r u : Nat → Int) (unit n : Nat) : filtL k r u unit (n + 1) = filtL k r u unit n ++ [filtB k r u unit n] := by simp [filtL, List.range_succ]
theorem filtL_length (k : Int) (r u : Nat → Int) (unit n : Nat) : (filtL k r u unit n).length = n := by simp [filtL]
theorem filtL_get (k : Int) (r u : Nat → Int) (unit n i : Nat) (h : i < n) : (filtL k r u unit n).getD i 0 = filtB k r u unit i := by simp [filtL, h]
/-- A row out of what it was filtered to. -/
def unfL (k : Int) (r u : Nat → Int) (unit : Nat) : Nat → List Int
  | 0 => []
  | n + 1 => unfL k r u unit n ++ [(r n + says k (fun j => (unfL k r u unit n).getD j 0) u unit n) % 256]
theorem unfL_length (k : Int) (r u : Nat → Int) (unit : Nat) : ∀ n, (unfL k r u unit n).length = n
  | 0 => rfl
  | n + 1 => by simp [unfL, unfL_length k r u unit n]
theorem unfL_next (k : Int) (r u : Nat → Int) (unit n : Nat) : unfL k r u unit (n + 1) = unfL k r u unit n ++ [(r n + says k (fun j => (unfL k r u unit n).getD j 0) u unit n) % 256] := rfl
theorem unfL_byte (k : Int) (r u : Nat → Int) (unit : Nat) : ∀ n, ∀ x ∈ unfL k r u unit n, 0 ≤ x ∧ x < 256
  | 0 => fun x h => by cases h
  | n + 1 => fun x h => by
    rcases List.mem_append.1 h with h | h
    · exact unfL_byte k r u unit n x h
    · rw [List.mem_singleton.1 h]
      omega
theorem getD_byte13 {L : List Int} (h : ∀ x ∈ L, 0 ≤ x ∧ x < 256) (i : Nat) : 0 ≤ L.getD i 0 ∧ L.getD i 0 < 256 := by
  by_cases hi : i < L.length
  · rw [List.getD_eq_getElem?_getD, List.getElem?_eq_getElem hi]
    exact h _ (List.getElem_mem hi)
  · rw [List.getD_eq_getElem?_getD, List.getElem?_eq_none (by omega)]
    show (0 : Int) ≤ 0 ∧ (0 : Int) < 256
    omega
theorem unfL_congr (k : Int) {r r' u u' : Nat → Int} (unit : Nat) : ∀ n, (∀ i, i < n → r i = r' i) → (∀ i, i < n → u i = u' i) → unfL k r u unit n = unfL k r' u' unit n
  | 0, _, _ => rfl
  | n + 1, h, hu => by
    rw [unfL_next, unfL_next, unfL_congr k unit n (fun i hi => h i (by omega)) (fun i hi => hu i (by omega)), h n (by omega)]
    congr 3
    unfold says aheadB
    by_cases hq : unit ≤ n
    · simp only [if_pos hq]
      rw [hu n (by omega), hu (n - unit) (by omega)]
    · simp only [if_neg hq]
      rw [hu n (by omega)]
/-- P13: a row comes back from its filter. -/
theorem unf_filt (k : Int) {r u : Nat → Int} {unit : Nat} (h1 : 1 ≤ unit) (hr : ∀ i, 0 ≤ r i ∧ r i < 256) (hu : ∀ i, 0 ≤ u i ∧ u i < 256) : ∀ n, unfL k (filtB k r u unit) u unit n = (List.range n).map r
  | 0 => rfl
  | n + 1 => by
    have ih := unf_filt k h1 hr hu n
    rw [unfL_next, ih, List.range_succ, List.map_append]
    congr 1
    have e : says k (fun j => ((List.range n).map r).getD j 0) u unit n = says k r u unit n := says_congr k h1 fun j hj => by simp [hj]
    rw [e]
    unfold filtB
    have h2 := says_byte k hr hu unit n
    have h3 := hr n
    show [_] = [_]
    congr 1
    omega
/-- A byte's weight, and a row's. -/
def wgt (x : Int) : Int := if 127 < x then 256 - x else x
def wsum (r : Nat → Int) : Nat → Int
  | 0 => 0
  | n + 1 => wsum r n + wgt (r n)
theorem wsum_range {r : Nat → Int} (h : ∀ i, 0 ≤ r i ∧ r i < 256) : ∀ n : Nat, 0 ≤ wsum r n ∧ wsum r n ≤ 128 * (n : Int)
  | 0 => by show (0 : Int) ≤ 0 ∧ (0 : Int) ≤ 128 * 0; omega
  | n + 1 => by
    have h1 := wsum_range h n
    have h2 := h n
    have h3 : 0 ≤ wgt (r n) ∧ wgt (r n) ≤ 128 := by unfold wgt; split <;> omega
    show 0 ≤ wsum r n + wgt (r n) ∧ wsum r n + wgt (r n) ≤ _
    omega
theorem wsum_congr {r r' : Nat → Int} : ∀ n : Nat, (∀ i, i < n → r i = r' i) → wsum r n = wsum r' n
  | 0, _ => rfl
  | n + 1, h => by
    show wsum r n + wgt (r n) = wsum r' n + wgt (r' n)
    rw [wsum_congr n fun i hi => h i (by omega), h n (by omega)]
/-- The lightest of the first kinds, the first of equal ones. -/
def least (f : Nat → Int) : Nat → Nat
  | 0 => 0
  | n + 1 => if f (n + 1) < f (least f n) then n + 1 else least f n
theorem least_le (f : Nat → Int) : ∀ n, least f n ≤ n
  | 0 => Nat.le_refl _
  | n + 1 => by
    have := least_le f n
    unfold least
    split
    · exact Nat.le_refl _
    · exact Nat.le_succ_of_le this
theorem least_min (f : Nat → Int) : ∀ n k, k ≤ n → f (least f n) ≤ f k
  | 0, k, h => by
    obtain rfl : k = 0 := by omega
    exact Int.le_refl _
  | n + 1, k, h => by
    show f (if _ then _ else _) ≤ _
    by_cases hk : k ≤ n
    · have := least_min f n k hk
      split <;> omega
    · obtain rfl : k = n + 1 := by omega
      split <;> omega
/-- May a row be filtered? -/
abbrev FiltR (k : Int) (row above : ByteArray) (unit : Int) : Prop := (0 ≤ k ∧ k ≤ 4) ∧ (1 ≤ unit ∧ unit ≤ 8) ∧ row.size = above.size ∧ row.size ≤ 200
def bts (s : ByteArray) (i : Nat) : Int := (byteAt s i : Int)
theorem bts_byte (s : ByteArray) (i : Nat) : 0 ≤ bts s i ∧ bts s i < 256 := by
  have := byteAt_lt s i
  unfold bts
  omega
def filtT (k : Int) (row above : ByteArray) (unit : Nat) : ByteArray := strOfNums (filtL k (bts row) (bts above) unit row.size)
def unfT (k : Int) (row above : ByteArray) (unit : Nat) : ByteArray := strOfNums (unfL k (bts row) (bts above) unit row.size)
def weight (s : ByteArray) : Int := if s.size ≤ 200 then wsum (bts s) s.size else -1
end FiltMath
end Go.Proofs.Ytpocfmopeaajaaa
