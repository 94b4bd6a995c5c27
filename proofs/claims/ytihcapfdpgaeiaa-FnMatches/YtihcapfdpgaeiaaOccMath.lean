/-
  The places at which three bytes stand, and the best repeat out of them, in plain numbers. Nothing here speaks of the program.
-/
import Derived.Test.YtihcapfdpgaeiaaTokMath
import Derived.Test.YtihcapfdpgaeiaaSearchMath
namespace Go.Proofs.Ytihcapfdpgaeiaa.SearchMath
open TokMath

/-- The places below K at which three bytes stand, in their order. -/
def occ (f : Nat → Nat) (a b c : Nat) : Nat → List Nat
  | 0 => []
  | K + 1 => if f K = a ∧ f (K + 1) = b ∧ f (K + 2) = c then occ f a b c K ++ [K] else occ f a b c K
/-- Those at which the bytes stand that stand at i. -/
def occAt (f : Nat → Nat) (i K : Nat) : List Nat := occ f (f i) (f (i + 1)) (f (i + 2)) K
section
variable {f : Nat → Nat} {N : Nat}
theorem occ_lt {a b c : Nat} : ∀ {K k : Nat}, k ∈ occ f a b c K → k < K
  | 0, _, h => by cases h
  | K + 1, k, h => by
    unfold occ at h
    split at h
    · rcases List.mem_append.mp h with h | h
      · have := occ_lt h
        omega
      · rw [List.mem_singleton.mp h]
        exact Nat.lt_succ_self K
    · have := occ_lt h
      omega
theorem occ_length_le {a b c : Nat} (K : Nat) : (occ f a b c K).length ≤ K := by
  induction K with
  | zero => exact Nat.le_refl _
  | succ K this =>
    unfold occ
    split
    · rw [List.length_append, List.length_singleton]
      omega
    · omega
theorem occ_here (i : Nat) : occAt f i (i + 1) = occAt f i i ++ [i] := by
  unfold occAt
  rw [occ, if_pos ⟨rfl, rfl, rfl⟩]
theorem occ_step {a b c K : Nat} (h : ¬ (f K = a ∧ f (K + 1) = b ∧ f (K + 2) = c)) : occ f a b c (K + 1) = occ f a b c K := by
  rw [occ, if_neg h]
theorem occ_more {a b c : Nat} (d K : Nat) : ∃ r, occ f a b c (K + d) = occ f a b c K ++ r := by
  induction d with
  | zero => exact ⟨[], by simp⟩
  | succ d ih =>
    obtain ⟨r, hr⟩ := ih
    rw [show K + (d + 1) = K + d + 1 by omega, occ]
    split
    · exact ⟨r ++ [K + d], by rw [hr, List.append_assoc]⟩
    · exact ⟨r, hr⟩
/-- The first of them, by their number. -/
theorem occ_take {a b c k K : Nat} (h : k ≤ K) : (occ f a b c k).length ≤ (occ f a b c K).length ∧ ∀ j, j < (occ f a b c k).length → (occ f a b c K).getD j 0 = (occ f a b c k).getD j 0 := by
  obtain ⟨d, rfl⟩ := Nat.exists_eq_add_of_le h
  obtain ⟨r, hr⟩ := occ_more (f := f) (a := a) (b := b) (c := c) d k
  rw [hr]
  refine ⟨by rw [List.length_append]; omega, fun j hj => ?_⟩
  rw [List.getD_eq_getElem?_getD, List.getD_eq_getElem?_getD, List.getElem?_append_left hj]
theorem occ_pos {i K : Nat} (h : i < K) : 0 < (occAt f i K).length := by
  have h1 := (occ_take (f := f) (a := f i) (b := f (i + 1)) (c := f (i + 2)) (k := i + 1) (K := K) h).1
  have h2 := congrArg List.length (occ_here (f := f) i)
  rw [List.length_append, List.length_singleton] at h2
  unfold occAt at h2 ⊢
  omega
theorem places_occ {at' : Nat} (h : at' + 2 < N) : ∀ K, places f N at' K = (occAt f at' K).reverse
  | 0 => rfl
  | K + 1 => by
    have ih := places_occ h K
    unfold occAt at ih ⊢
    rw [places, occ]
    by_cases q : f K = f at' ∧ f (K + 1) = f (at' + 1) ∧ f (K + 2) = f (at' + 2)
    · rw [if_pos (show Three f N K at' from ⟨h, q⟩), if_pos q, ih, List.reverse_append]
      rfl
    · rw [if_neg (fun k : Three f N K at' => q k.2), if_neg q, ih]
theorem pick_app (at' : Nat) : ∀ (l r : List Nat) (b d : Nat), pick f N at' (l ++ r) b d = pick f N at' r (pick f N at' l b d).1 (pick f N at' l b d).2
  | [], r, b, d => rfl
  | k :: l, r, b, d => by
    rw [List.cons_append, pick, pick]
    split
    · exact pick_app at' l r _ _
    · exact pick_app at' l r b d
/-- No repeat is longer than what is left of the text. -/
theorem common_room (a b : Nat) (hb : b < N) : common f N a b 258 ≤ N - b := by
  rcases Nat.eq_zero_or_pos (common f N a b 258) with h | h
  · omega
  · have := (common_same (f := f) (N := N) 258 a b (common f N a b 258 - 1) (by omega)).1
    omega
theorem pick_full {at' : Nat} (hat : at' < N) : ∀ (l : List Nat) (b d : Nat), min 258 (N - at') ≤ b → pick f N at' l b d = (b, d)
  | [], _, _, _ => rfl
  | k :: l, b, d, h => by
    have h1 := common_le (f := f) (N := N) 258 k at'
    have h2 := common_room (f := f) k at' hat
    rw [pick, if_neg (by omega)]
    exact pick_full hat l b d h
/-- What is looked at, the nearest first: of the last of the places ahead, from their end on. -/
theorem places_last {at' c : Nat} (h : at' + 2 < N) : (places f N at' at').take c = (List.range ((occAt f at' at').length - ((occAt f at' at').length - c))).map fun j => (occAt f at' at').getD ((occAt f at' at').length - 1 - j) 0 := by
  rw [places_occ h]
  refine List.ext_getElem ?_ fun j h1 h2 => ?_
  · rw [List.length_take, List.length_reverse, List.length_map, List.length_range]
    omega
  · rw [List.length_map, List.length_range] at h2
    rw [List.getElem_take, List.getElem_reverse, List.getElem_map, List.getElem_range, List.getD_eq_getElem?_getD, List.getElem?_eq_getElem (by omega)]
    rfl
/-- How many bytes are alike, found by going on. -/
theorem common_run {a b n : Nat} (hb : b < N) (hn : n ≤ min 258 (N - b)) (h : ∀ i, i < n → f (a + i) = f (b + i)) (hs : n = min 258 (N - b) ∨ f (a + n) ≠ f (b + n)) : common f N a b 258 = n := by
  refine common_eq (by omega) (fun i hi => ⟨by omega, h i hi⟩) ?_
  rcases hs with q | q
  · rcases Nat.lt_or_ge (N - b) 258 with k | k
    · exact .inr (fun e => by omega)
    · exact .inl (by omega)
  · exact .inr (fun e => q e.2)
theorem common_short (a b : Nat) (hb : b < N) : common f N a b (min 258 (N - b)) = common f N a b 258 := by
  have h1 := common_le (f := f) (N := N) (min 258 (N - b)) a b
  have h2 := common_same (f := f) (N := N) (min 258 (N - b)) a b
  have h3 := common_stop (f := f) (N := N) (min 258 (N - b)) a b
  generalize common f N a b (min 258 (N - b)) = n at *
  refine (common_run hb h1 (fun i hi => (h2 i hi).2) ?_).symm
  by_cases q : n = min 258 (N - b)
  · exact .inl q
  · rcases h3 with k | k
    · exact .inl k
    · exact .inr (fun e => k ⟨by omega, e⟩)
/-- One place more. -/
theorem pick_more {at' m k b d : Nat} {l : List Nat} (hat : at' < N) (hm : m = min 258 (N - at')) (h : pick f N at' l 0 0 = (b, d)) : pick f N at' (l ++ [k]) 0 0 = if b < common f N k at' m then (common f N k at' m, at' - k) else (b, d) := by
  rw [pick_app, h, hm, common_short _ _ hat]
  show (if b < common f N k at' 258 then pick f N at' [] _ _ else pick f N at' [] b d) = _
  split <;> rfl
/-- Where nothing can be better any more. -/
theorem pick_stop {at' m n k b d : Nat} {g : Nat → Nat} (hat : at' < N) (hm : m = min 258 (N - at')) (hk : k ≤ n) (h : pick f N at' ((List.range k).map g) 0 0 = (b, d)) (hb : b = m) : pick f N at' ((List.range n).map g) 0 0 = (b, d) := by
  obtain ⟨e, rfl⟩ := Nat.exists_eq_add_of_le hk
  rw [List.range_add, List.map_append, pick_app, h]
  exact pick_full hat _ _ _ (by omega)
end
end Go.Proofs.Ytihcapfdpgaeiaa.SearchMath
