/-
  Runs of lengths, in plain numbers: the Runs of lengths, and the lengths of Runs. Nothing here speaks of the program.
-/
namespace Go.Proofs.Ytpocfmopeaajaaa.RunsMath

/-- How often x stands from place i on, at most so many times. -/
def sameN (f : Nat → Int) (n : Nat) (x : Int) : Nat → Nat → Nat
  | 0, _ => 0
  | m + 1, i => if i < n ∧ f i = x then 1 + sameN f n x m (i + 1) else 0
theorem same_le (f : Nat → Int) (n : Nat) (x : Int) : ∀ m i, sameN f n x m i ≤ m
  | 0, _ => Nat.le_refl _
  | m + 1, i => by
    have := same_le f n x m (i + 1)
    unfold sameN
    split <;> omega
theorem same_in (f : Nat → Int) (n : Nat) (x : Int) : ∀ m i, i ≤ n → i + sameN f n x m i ≤ n
  | 0, i, h => h
  | m + 1, i, h => by
    unfold sameN
    split
    · rename_i q
      have := same_in f n x m (i + 1) (by omega)
      omega
    · omega
theorem same_all (f : Nat → Int) (n : Nat) (x : Int) : ∀ m i j, j < sameN f n x m i → f (i + j) = x
  | 0, _, j, h => by simp [sameN] at h
  | m + 1, i, j, h => by
    unfold sameN at h
    split at h
    · rename_i q
      cases j with
      | zero => exact q.2
      | succ j =>
        have := same_all f n x m (i + 1) j (by omega)
        rw [show i + (j + 1) = i + 1 + j by omega]
        exact this
    · omega
/-- It is told by that. -/
theorem same_told {f : Nat → Int} {n : Nat} {x : Int} : ∀ {m i k : Nat}, k ≤ m → i + k ≤ n → (∀ j, j < k → f (i + j) = x) → (k = m ∨ i + k = n ∨ f (i + k) ≠ x) → sameN f n x m i = k
  | 0, i, k, h1, _, _, _ => by
    obtain rfl : k = 0 := by omega
    rfl
  | m + 1, i, k, h1, h2, h3, h4 => by
    unfold sameN
    cases k with
    | zero =>
      rw [if_neg]
      rintro ⟨q1, q2⟩
      rcases h4 with h | h | h
      · omega
      · omega
      · exact h q2
    | succ k =>
      rw [if_pos ⟨by omega, h3 0 (by omega)⟩]
      have := same_told (f := f) (n := n) (x := x) (m := m) (i := i + 1) (k := k) (by omega) (by omega) (fun j hj => by rw [show i + 1 + j = i + (j + 1) by omega]; exact h3 (j + 1) (by omega)) (by
        rcases h4 with h | h | h
        · exact .inl (by omega)
        · exact .inr (.inl (by omega))
        · exact .inr (.inr (by rw [show i + 1 + k = i + (k + 1) by omega]; exact h)))
      omega

def zerosAt (f : Nat → Int) (n i : Nat) : Nat := sameN f n 0 138 i
def sameAt (f : Nat → Int) (n i : Nat) : Nat := if i = 0 then 0 else sameN f n (f (i - 1)) 6 i
/-- The Run at place i, and how many lengths it tells. -/
def runAt (f : Nat → Int) (n i : Nat) : (Int × Int) × Nat :=
  if 11 ≤ zerosAt f n i then ((18, (zerosAt f n i : Int) - 11), zerosAt f n i)
  else if 3 ≤ zerosAt f n i then ((17, (zerosAt f n i : Int) - 3), zerosAt f n i)
  else if 3 ≤ sameAt f n i then ((16, (sameAt f n i : Int) - 3), sameAt f n i)
  else ((f i, 0), 1)
theorem zeros_le (f : Nat → Int) (n i : Nat) : zerosAt f n i ≤ 138 := same_le _ _ _ _ _
theorem sameAt_le (f : Nat → Int) (n i : Nat) : sameAt f n i ≤ 6 := by
  unfold sameAt
  split
  · omega
  · exact same_le _ _ _ _ _
theorem runAt_pos (f : Nat → Int) (n i : Nat) : 1 ≤ (runAt f n i).2 := by
  unfold runAt
  split
  · show 1 ≤ zerosAt f n i; omega
  · split
    · show 1 ≤ zerosAt f n i; omega
    · split
      · show 1 ≤ sameAt f n i; omega
      · exact Nat.le_refl _
theorem sameAt_in {f : Nat → Int} {n i : Nat} (h : i ≤ n) : i + sameAt f n i ≤ n := by
  unfold sameAt
  split
  · omega
  · exact same_in _ _ _ _ _ h
theorem runAt_in {f : Nat → Int} {n i : Nat} (h : i < n) : i + (runAt f n i).2 ≤ n := by
  have h1 : i + zerosAt f n i ≤ n := same_in f n 0 138 i (by omega)
  have h2 := sameAt_in (f := f) (show i ≤ n by omega)
  unfold runAt
  split
  · exact h1
  · split
    · exact h1
    · split
      · exact h2
      · exact h
/-- The Runs from place i on. -/
def rest (f : Nat → Int) (n : Nat) (i : Nat) : List (Int × Int) :=
  if i < n then (runAt f n i).1 :: rest f n (i + max 1 (runAt f n i).2) else []
termination_by n - i
decreasing_by omega
theorem rest_more {f : Nat → Int} {n i : Nat} (h : i < n) : rest f n i = (runAt f n i).1 :: rest f n (i + (runAt f n i).2) := by
  rw [rest, if_pos h, Nat.max_eq_right (runAt_pos f n i)]
theorem rest_none {f : Nat → Int} {n i : Nat} (h : ¬ i < n) : rest f n i = [] := by rw [rest, if_neg h]
theorem rest_length (f : Nat → Int) (n : Nat) : ∀ d i, n - i = d → (rest f n i).length ≤ n - i := by
  intro d
  induction d using Nat.strongRecOn with
  | _ d ih =>
    intro i hd
    by_cases h : i < n
    · rw [rest_more h, List.length_cons]
      have h1 := runAt_pos f n i
      have h2 := ih (n - (i + (runAt f n i).2)) (by omega) (i + (runAt f n i).2) rfl
      omega
    · rw [rest_none h]
      exact Nat.zero_le _
/-- Of a symbol how many extra bits it has. -/
def bitsOf (s : Int) : Nat := if s = 16 then 2 else if s = 17 then 3 else if s = 18 then 7 else 0
def Fine (f : Nat → Int) (n : Nat) : Prop := ∀ i, i < n → 0 ≤ f i ∧ f i ≤ 15
theorem runAt_fine {f : Nat → Int} {n i : Nat} (hf : Fine f n) (hi : i < n) : 0 ≤ (runAt f n i).1.2 ∧ (runAt f n i).1.2 < 2 ^ bitsOf (runAt f n i).1.1 := by
  have h1 := zeros_le f n i
  have h2 := sameAt_le f n i
  have h3 := hf i hi
  unfold runAt
  split
  · show 0 ≤ (zerosAt f n i : Int) - 11 ∧ (zerosAt f n i : Int) - 11 < 2 ^ 7
    omega
  · split
    · show 0 ≤ (zerosAt f n i : Int) - 3 ∧ (zerosAt f n i : Int) - 3 < 2 ^ 3
      omega
    · split
      · show 0 ≤ (sameAt f n i : Int) - 3 ∧ (sameAt f n i : Int) - 3 < 2 ^ 2
        omega
      · show (0 : Int) ≤ 0 ∧ (0 : Int) < 2 ^ bitsOf (f i)
        have : bitsOf (f i) = 0 := by unfold bitsOf; rw [if_neg (by omega), if_neg (by omega), if_neg (by omega)]
        rw [this]
        omega
theorem rest_fine {f : Nat → Int} {n : Nat} (hf : Fine f n) : ∀ d i, n - i = d → ∀ r ∈ rest f n i, 0 ≤ r.2 ∧ r.2 < 2 ^ bitsOf r.1 := by
  intro d
  induction d using Nat.strongRecOn with
  | _ d ih =>
    intro i hd r hr
    by_cases h : i < n
    · rw [rest_more h] at hr
      rcases List.mem_cons.mp hr with rfl | hr
      · exact runAt_fine hf h
      · have h1 := runAt_pos f n i
        exact ih (n - (i + (runAt f n i).2)) (by omega) (i + (runAt f n i).2) rfl r hr
    · rw [rest_none h] at hr
      cases hr

/-! The way back. -/
/-- What a Run tells behind some lengths. -/
def tell (out : List Int) (r : Int × Int) : Option (List Int) :=
  if r.1 = 16 then (if 0 ≤ r.2 ∧ r.2 ≤ 3 ∧ 0 < out.length then some (List.replicate (3 + r.2).toNat (out.getD (out.length - 1) 0)) else none)
  else if r.1 = 17 then (if 0 ≤ r.2 ∧ r.2 ≤ 7 then some (List.replicate (3 + r.2).toNat 0) else none)
  else if r.1 = 18 then (if 0 ≤ r.2 ∧ r.2 ≤ 127 then some (List.replicate (11 + r.2).toNat 0) else none)
  else if 0 ≤ r.1 ∧ r.1 ≤ 15 ∧ r.2 = 0 then some [r.1] else none
/-- What Runs tell, of so many lengths. -/
def back (z : Nat) (out : List Int) : List (Int × Int) → Option (List Int)
  | [] => if out.length = z then some out else none
  | r :: R => match tell out r with
    | none => none
    | some more => if out.length + more.length ≤ z then back z (out ++ more) R else none
def lst (f : Nat → Int) (n : Nat) : List Int := (List.range n).map f
theorem lst_length (f : Nat → Int) (n : Nat) : (lst f n).length = n := by simp [lst]
theorem lst_get (f : Nat → Int) (n i : Nat) (h : i < n) : (lst f n).getD i 0 = f i := by
  rw [List.getD_eq_getElem?_getD]
  simp [lst, h]
theorem lst_same (f : Nat → Int) (x : Int) (i : Nat) : ∀ k, (∀ j, j < k → f (i + j) = x) → lst f (i + k) = lst f i ++ List.replicate k x
  | 0, _ => by simp
  | k + 1, h => by
    have e := lst_same f x i k (fun j hj => h j (by omega))
    have e2 : lst f (i + (k + 1)) = lst f (i + k) ++ [f (i + k)] := by
      unfold lst
      rw [show i + (k + 1) = (i + k) + 1 by omega, List.range_succ, List.map_append]
      rfl
    rw [e2, e, h k (by omega), List.append_assoc, List.replicate_succ']
theorem tell_runAt {f : Nat → Int} {n i : Nat} (hf : Fine f n) (hi : i < n) : ∃ more, tell (lst f i) (runAt f n i).1 = some more ∧ lst f (i + (runAt f n i).2) = lst f i ++ more := by
  have h1 := zeros_le f n i
  have h2 := sameAt_le f n i
  have h3 := hf i hi
  have hz : ∀ j, j < zerosAt f n i → f (i + j) = 0 := same_all f n 0 138 i
  unfold runAt
  split
  · rename_i q
    refine ⟨List.replicate (zerosAt f n i) 0, ?_, lst_same f 0 i _ hz⟩
    show tell (lst f i) (18, (zerosAt f n i : Int) - 11) = _
    unfold tell
    rw [if_neg (by show ¬ (18 : Int) = 16; omega), if_neg (by show ¬ (18 : Int) = 17; omega), if_pos rfl, if_pos (by show 0 ≤ (zerosAt f n i : Int) - 11 ∧ (zerosAt f n i : Int) - 11 ≤ 127; omega)]
    show some (List.replicate (11 + ((zerosAt f n i : Int) - 11)).toNat 0) = _
    rw [show (11 + ((zerosAt f n i : Int) - 11)).toNat = zerosAt f n i by omega]
  · split
    · rename_i q
      refine ⟨List.replicate (zerosAt f n i) 0, ?_, lst_same f 0 i _ hz⟩
      show tell (lst f i) (17, (zerosAt f n i : Int) - 3) = _
      unfold tell
      rw [if_neg (by show ¬ (17 : Int) = 16; omega), if_pos rfl, if_pos (by show 0 ≤ (zerosAt f n i : Int) - 3 ∧ (zerosAt f n i : Int) - 3 ≤ 7; omega)]
      show some (List.replicate (3 + ((zerosAt f n i : Int) - 3)).toNat 0) = _
      rw [show (3 + ((zerosAt f n i : Int) - 3)).toNat = zerosAt f n i by omega]
    · split
      · rename_i q
        have hi0 : i ≠ 0 := fun e => by
          rw [e] at q
          simp [sameAt] at q
        have hs : ∀ j, j < sameAt f n i → f (i + j) = f (i - 1) := by
          unfold sameAt
          rw [if_neg hi0]
          exact same_all f n (f (i - 1)) 6 i
        refine ⟨List.replicate (sameAt f n i) (f (i - 1)), ?_, lst_same f _ i _ hs⟩
        show tell (lst f i) (16, (sameAt f n i : Int) - 3) = _
        unfold tell
        rw [if_pos rfl, if_pos (by rw [lst_length]; show 0 ≤ (sameAt f n i : Int) - 3 ∧ (sameAt f n i : Int) - 3 ≤ 3 ∧ 0 < i; omega), lst_length, lst_get f i (i - 1) (by omega)]
        show some (List.replicate (3 + ((sameAt f n i : Int) - 3)).toNat (f (i - 1))) = _
        rw [show (3 + ((sameAt f n i : Int) - 3)).toNat = sameAt f n i by omega]
      · refine ⟨[f i], ?_, lst_same f (f i) i 1 (fun j hj => by rw [show j = 0 by omega]; rfl)⟩
        show tell (lst f i) (f i, 0) = _
        unfold tell
        rw [if_neg (by show ¬ f i = 16; omega), if_neg (by show ¬ f i = 17; omega), if_neg (by show ¬ f i = 18; omega), if_pos ⟨h3.1, h3.2, rfl⟩]
/-- Lengths come back from their Runs. -/
theorem back_rest {f : Nat → Int} {n : Nat} (hf : Fine f n) : ∀ d i, n - i = d → i ≤ n → back n (lst f i) (rest f n i) = some (lst f n) := by
  intro d
  induction d using Nat.strongRecOn with
  | _ d ih =>
    intro i hd hin
    by_cases h : i < n
    · rw [rest_more h]
      obtain ⟨more, e1, e2⟩ := tell_runAt hf h
      have h1 := runAt_pos f n i
      have h2 := runAt_in (f := f) h
      have h3 : (lst f i).length + more.length = i + (runAt f n i).2 := by
        rw [← List.length_append, ← e2, lst_length]
      unfold back
      rw [e1]
      show (if (lst f i).length + more.length ≤ n then back n (lst f i ++ more) (rest f n (i + (runAt f n i).2)) else none) = _
      rw [if_pos (by omega), ← e2]
      exact ih (n - (i + (runAt f n i).2)) (by omega) (i + (runAt f n i).2) rfl h2
    · obtain rfl : i = n := by omega
      rw [rest_none h]
      show (if (lst f i).length = i then some (lst f i) else none) = _
      rw [if_pos (lst_length f i)]

end Go.Proofs.Ytpocfmopeaajaaa.RunsMath
