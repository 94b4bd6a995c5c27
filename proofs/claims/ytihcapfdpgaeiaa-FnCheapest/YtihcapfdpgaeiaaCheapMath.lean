/-
  What tokens cost, and the cheapest way through a text, found from its end, in plain numbers. Nothing here speaks of the program.
-/
import Derived.Test.YtihcapfdpgaeiaaTokMath
import Derived.Test.YtihcapfdpgaeiaaStepMath
import Derived.Test.YtihcapfdpgaeiaaSearchMath
namespace Go.Proofs.Ytihcapfdpgaeiaa.CheapMath
open TokMath StepMath SearchMath

/-- What a token costs. -/
def costT (t : Tok) : Int := if t.2.1 = 0 then (if t.1 < 144 then 8 else 9) else (if (LengthCodeOf t.2.1).1 < 280 then 7 else 8) + (LengthCodeOf t.2.1).2.1 + 5 + (DistCodeOf t.2.2).2.1
def sumC : List Tok → Int
  | [] => 0
  | t :: r => costT t + sumC r
theorem sumC_app : ∀ A B : List Tok, sumC (A ++ B) = sumC A + sumC B
  | [], B => by rw [List.nil_append]; show sumC B = 0 + sumC B; omega
  | t :: A, B => by
    show costT t + sumC (A ++ B) = costT t + sumC A + sumC B
    rw [sumC_app A B]
    omega
theorem cost_byte (x z : Int) : costT (x, 0, z) = if x < 144 then 8 else 9 := rfl
theorem cost_range (t : Tok) : 0 ≤ costT t ∧ costT t ≤ 31 := by
  unfold costT
  split
  · split <;> omega
  · have h1 : 0 ≤ (LengthCodeOf t.2.1).2.1 ∧ (LengthCodeOf t.2.1).2.1 ≤ 5 := by
      by_cases h : 3 ≤ t.2.1 ∧ t.2.1 ≤ 258
      · have := len_back h.1 h.2
        exact ⟨this.2.2.2.2.2.1, this.2.2.2.2.2.2⟩
      · unfold LengthCodeOf
        rw [if_neg h]
        exact ⟨by show (0 : Int) ≤ 0; omega, by show (0 : Int) ≤ 5; omega⟩
    have h2 : 0 ≤ (DistCodeOf t.2.2).2.1 ∧ (DistCodeOf t.2.2).2.1 ≤ 13 := by
      by_cases h : 1 ≤ t.2.2 ∧ t.2.2 ≤ 32768
      · have := dist_back h.1 h.2
        exact ⟨this.2.2.2.2.2.1, this.2.2.2.2.2.2⟩
      · unfold DistCodeOf
        rw [if_neg h]
        exact ⟨by show (0 : Int) ≤ 0; omega, by show (0 : Int) ≤ 13; omega⟩
    split <;> omega

section
variable (f : Nat → Nat) (N chain : Nat)
/-- Of the repeats of m lengths from 3 on at a place the cheapest, or what was so far; C: what the rest costs from a place on. -/
def pickK (C : Nat → Int) (at' d : Nat) (acc : Int × Tok) : Nat → Int × Tok
  | 0 => acc
  | m + 1 => if costT (0, ((3 + m : Nat) : Int), (d : Int)) + C (at' + (3 + m)) < (pickK C at' d acc m).1 then (costT (0, ((3 + m : Nat) : Int), (d : Int)) + C (at' + (3 + m)), (0, ((3 + m : Nat) : Int), (d : Int))) else pickK C at' d acc m
/-- What is known of a place, once the places behind it are known. -/
def entry (C : Nat → Int) (at' : Nat) : Int × Tok := pickK C at' (bestM f N at' chain).2 (costT ((f at' : Int), 0, 0) + C (at' + 1), ((f at' : Int), 0, 0)) ((bestM f N at' chain).1 - 2)
/-- What is known once m places, from the end, are done. -/
def tab : Nat → Nat → Int × Tok
  | 0, _ => (0, (0, 0, 0))
  | m + 1, i => if i = N - (m + 1) then entry f N chain (fun j => (tab m j).1) i else tab m i
/-- The whole. -/
def costAt (i : Nat) : Int := (tab f N chain N i).1
def takeAt (i : Nat) : Tok := (tab f N chain N i).2
end
section
variable {f : Nat → Nat} {N chain : Nat}
theorem pickK_congr {C C' : Nat → Int} {at' d : Nat} {acc : Int × Tok} : ∀ m, (∀ j, j < m → C (at' + (3 + j)) = C' (at' + (3 + j))) → pickK C at' d acc m = pickK C' at' d acc m
  | 0, _ => rfl
  | m + 1, h => by
    unfold pickK
    rw [pickK_congr m (fun j hj => h j (by omega)), h m (Nat.lt_succ_self m)]
theorem entry_congr {C C' : Nat → Int} {at' : Nat} (h : ∀ j, at' < j → C j = C' j) : entry f N chain C at' = entry f N chain C' at' := by
  unfold entry
  rw [h (at' + 1) (by omega), pickK_congr _ (fun j _ => h _ (by omega))]
theorem tab_past : ∀ m i, N ≤ i → m ≤ N → tab f N chain m i = (0, (0, 0, 0))
  | 0, _, _, _ => rfl
  | m + 1, i, h, hm => by
    unfold tab
    rw [if_neg (by omega)]
    exact tab_past m i h (by omega)
/-- What is done stays. -/
theorem tab_stay : ∀ d m i, N - m ≤ i → m + d ≤ N → tab f N chain (m + d) i = tab f N chain m i
  | 0, _, _, _, _ => rfl
  | d + 1, m, i, h, hm => by
    show (if i = N - (m + d + 1) then entry f N chain (fun j => (tab f N chain (m + d) j).1) i else tab f N chain (m + d) i) = _
    rw [if_neg (by omega)]
    exact tab_stay d m i h (by omega)
theorem tab_done {m i : Nat} (h : N - m ≤ i) (hm : m ≤ N) : tab f N chain N i = tab f N chain m i := by
  obtain ⟨d, rfl⟩ := Nat.exists_eq_add_of_le hm
  exact tab_stay d m i h (Nat.le_refl _)
theorem tab_entry {i : Nat} (h : i < N) : tab f N chain N i = entry f N chain (costAt f N chain) i := by
  have h1 : tab f N chain N i = tab f N chain (N - 1 - i + 1) i := tab_done (by omega) (by omega)
  rw [h1]
  show (if i = N - (N - 1 - i + 1) then entry f N chain (fun j => (tab f N chain (N - 1 - i) j).1) i else _) = _
  rw [if_pos (by omega)]
  exact entry_congr (fun j hj => by
    show (tab f N chain (N - 1 - i) j).1 = (tab f N chain N j).1
    rw [tab_done (m := N - 1 - i) (by omega) (by omega)])
theorem cost_past {i : Nat} (h : N ≤ i) : costAt f N chain i = 0 := by
  unfold costAt
  rw [tab_past N i h (Nat.le_refl _)]
/-- The tokens that may be taken at a place. -/
def Opt (f : Nat → Nat) (N chain at' : Nat) (t : Tok) : Prop := t = ((f at' : Int), 0, 0) ∨ ∃ k, 3 ≤ k ∧ k ≤ (bestM f N at' chain).1 ∧ t = (0, (k : Int), ((bestM f N at' chain).2 : Int))
theorem opt_fine {at' : Nat} {t : Tok} (h : Opt f N chain at' t) : Fine f N at' t := by
  rcases h with rfl | ⟨k, h3, hk, rfl⟩
  · exact .inl rfl
  · have hr := best_rep (f := f) (N := N) (at' := at') (chain := chain) (by omega)
    obtain ⟨h1, h2, h4, h5⟩ := hr
    exact .inr ⟨k, _, rfl, ⟨h3, by omega⟩, h2, by omega, fun i hi => h5 i (by omega)⟩
theorem greedy_opt (at' : Nat) : Opt f N chain at' (greedyC f N chain at') := by
  unfold greedyC
  split
  · exact .inl rfl
  · rename_i h
    exact .inr ⟨_, (best_rep h).1.1, Nat.le_refl _, rfl⟩
theorem lazy_opt (at' : Nat) : Opt f N chain at' (lazyC f N chain at') := by
  unfold lazyC
  split
  · exact .inl rfl
  · rename_i h
    exact .inr ⟨_, (best_rep (fun e => h (.inl e))).1.1, Nat.le_refl _, rfl⟩
/-- What is picked is what was there, or one of the repeats, at its cost. -/
theorem pickK_is (C : Nat → Int) (at' d : Nat) (acc : Int × Tok) : ∀ m, pickK C at' d acc m = acc ∨ ∃ k, 3 ≤ k ∧ k < 3 + m ∧ pickK C at' d acc m = (costT (0, (k : Int), (d : Int)) + C (at' + k), (0, (k : Int), (d : Int)))
  | 0 => .inl rfl
  | m + 1 => by
    unfold pickK
    split
    · exact .inr ⟨3 + m, by omega, by omega, rfl⟩
    · rcases pickK_is C at' d acc m with h | ⟨k, h1, h2, h⟩
      · exact .inl h
      · exact .inr ⟨k, h1, by omega, h⟩
theorem pickK_le (C : Nat → Int) (at' d : Nat) (acc : Int × Tok) : ∀ m, (pickK C at' d acc m).1 ≤ acc.1 ∧ ∀ k, 3 ≤ k → k < 3 + m → (pickK C at' d acc m).1 ≤ costT (0, (k : Int), (d : Int)) + C (at' + k)
  | 0 => ⟨Int.le_refl _, fun k h1 h2 => by omega⟩
  | m + 1 => by
    obtain ⟨h1, h2⟩ := pickK_le C at' d acc m
    unfold pickK
    split
    · rename_i q
      refine ⟨?_, fun k k1 k2 => ?_⟩
      · show costT (0, ((3 + m : Nat) : Int), (d : Int)) + C (at' + (3 + m)) ≤ acc.1
        omega
      · show costT (0, ((3 + m : Nat) : Int), (d : Int)) + C (at' + (3 + m)) ≤ _
        rcases Nat.lt_or_ge k (3 + m) with k3 | k3
        · have := h2 k k1 k3
          omega
        · have : k = 3 + m := by omega
          subst this
          exact Int.le_refl _
    · rename_i q
      refine ⟨h1, fun k k1 k2 => ?_⟩
      rcases Nat.lt_or_ge k (3 + m) with k3 | k3
      · exact h2 k k1 k3
      · have : k = 3 + m := by omega
        subst this
        omega
theorem take_is {i : Nat} (h : i < N) : Opt f N chain i (takeAt f N chain i) ∧ costAt f N chain i = costT (takeAt f N chain i) + costAt f N chain (i + sizeT (takeAt f N chain i)) := by
  have e := tab_entry (f := f) (chain := chain) h
  unfold entry at e
  have e1 : costAt f N chain i = (tab f N chain N i).1 := rfl
  have e2 : takeAt f N chain i = (tab f N chain N i).2 := rfl
  rcases pickK_is (costAt f N chain) i (bestM f N i chain).2 (costT ((f i : Int), 0, 0) + costAt f N chain (i + 1), ((f i : Int), 0, 0)) ((bestM f N i chain).1 - 2) with q | ⟨k, h1, h2, q⟩
  · rw [q] at e
    rw [e1, e2, e]
    exact ⟨.inl rfl, rfl⟩
  · rw [q] at e
    rw [e1, e2, e]
    refine ⟨.inr ⟨k, h1, by omega, rfl⟩, ?_⟩
    show costT (0, (k : Int), ((bestM f N i chain).2 : Int)) + costAt f N chain (i + k) = costT (0, (k : Int), ((bestM f N i chain).2 : Int)) + costAt f N chain (i + sizeT (0, (k : Int), ((bestM f N i chain).2 : Int)))
    rw [size_rep _ _ (by omega)]
theorem take_least {i : Nat} (h : i < N) {t : Tok} (ht : Opt f N chain i t) : costAt f N chain i ≤ costT t + costAt f N chain (i + sizeT t) := by
  have e := tab_entry (f := f) (chain := chain) h
  unfold entry at e
  have e1 : costAt f N chain i = (tab f N chain N i).1 := rfl
  obtain ⟨q1, q2⟩ := pickK_le (costAt f N chain) i (bestM f N i chain).2 (costT ((f i : Int), 0, 0) + costAt f N chain (i + 1), ((f i : Int), 0, 0)) ((bestM f N i chain).1 - 2)
  rw [e1, e]
  rcases ht with rfl | ⟨k, h1, h2, rfl⟩
  · exact q1
  · rw [size_rep _ _ (by omega)]
    exact q2 k h1 (by omega)
theorem opt_size {c : Nat → Tok} (hc : ∀ i, i < N → Opt f N chain i (c i)) : ∀ i, i < N → 1 ≤ sizeT (c i) := fun i hi => (fine_size (opt_fine (hc i hi)) hi).1
/-- No way costs less. -/
theorem cheap_le {c : Nat → Tok} (hc : ∀ i, i < N → Opt f N chain i (c i)) : ∀ m at', N - at' = m → costAt f N chain at' ≤ sumC (wayL c N at') := by
  intro m
  induction m using Nat.strongRecOn with
  | _ m ih =>
    intro at' hm
    by_cases h : at' < N
    · have h1 := opt_size hc at' h
      rw [way_step (opt_size hc) h]
      have h2 := take_least h (hc at' h)
      have h3 := ih (N - (at' + sizeT (c at'))) (by omega) (at' + sizeT (c at')) rfl
      show _ ≤ costT (c at') + sumC (wayL c N (at' + sizeT (c at')))
      omega
    · rw [way_end (by omega), cost_past (by omega)]
      exact Int.le_refl _
theorem take_opt : ∀ i, i < N → Opt f N chain i (takeAt f N chain i) := fun _ hi => (take_is hi).1
/-- The way that is taken costs what is known. -/
theorem cheap_eq : ∀ m at', N - at' = m → sumC (wayL (takeAt f N chain) N at') = costAt f N chain at' := by
  intro m
  induction m using Nat.strongRecOn with
  | _ m ih =>
    intro at' hm
    by_cases h : at' < N
    · have h1 := opt_size (take_opt (f := f) (N := N) (chain := chain)) at' h
      rw [way_step (opt_size take_opt) h]
      have h3 := ih (N - (at' + sizeT (takeAt f N chain at'))) (by omega) (at' + sizeT (takeAt f N chain at')) rfl
      show costT (takeAt f N chain at') + sumC (wayL (takeAt f N chain) N (at' + sizeT (takeAt f N chain at'))) = _
      rw [h3, (take_is h).2]
    · rw [way_end (by omega), cost_past (by omega)]
      rfl
/-- The bytes alone. -/
theorem bytes_cost : ∀ m at', N - at' = m → costAt f N chain at' ≤ 9 * ((N - at' : Nat) : Int) := by
  intro m
  induction m with
  | zero =>
    intro at' hm
    rw [cost_past (by omega)]
    omega
  | succ m ih =>
    intro at' hm
    have h1 := take_least (f := f) (chain := chain) (show at' < N by omega) (.inl rfl)
    have h2 := ih (at' + 1) (by omega)
    rw [size_byte, cost_byte] at h1
    split at h1 <;> omega
/-- What a law on the cheapest way asks. -/
theorem cheapest_law (f : Nat → Nat) (N chain : Nat) : sumC (wayL (takeAt f N chain) N 0) ≤ sumC (wayL (greedyC f N chain) N 0) ∧ sumC (wayL (takeAt f N chain) N 0) ≤ sumC (wayL (lazyC f N chain) N 0) ∧ sumC (wayL (takeAt f N chain) N 0) ≤ 9 * (N : Int) := by
  rw [cheap_eq N 0 rfl]
  exact ⟨cheap_le (fun i _ => greedy_opt i) N 0 rfl, cheap_le (fun i _ => lazy_opt i) N 0 rfl, bytes_cost N 0 rfl⟩
theorem take_fine {i : Nat} (h : i < N) : Fine f N i (takeAt f N chain i) := opt_fine (take_opt i h)
/-- The costs are small. -/
theorem cost_small : ∀ m at', N - at' = m → 0 ≤ costAt f N chain at' ∧ costAt f N chain at' ≤ 9 * (m : Int) := by
  intro m
  induction m using Nat.strongRecOn with
  | _ m ih =>
    intro at' hm
    refine ⟨?_, by have := bytes_cost (f := f) (chain := chain) m at' hm; omega⟩
    by_cases h : at' < N
    · obtain ⟨h1, h2⟩ := take_is (f := f) (chain := chain) h
      have h3 := opt_size (take_opt (f := f) (N := N) (chain := chain)) at' h
      have h4 := (ih (N - (at' + sizeT (takeAt f N chain at'))) (by omega) (at' + sizeT (takeAt f N chain at')) rfl).1
      have h5 := (cost_range (takeAt f N chain at')).1
      omega
    · rw [cost_past (by omega)]
      exact Int.le_refl _
end
end Go.Proofs.Ytihcapfdpgaeiaa.CheapMath
