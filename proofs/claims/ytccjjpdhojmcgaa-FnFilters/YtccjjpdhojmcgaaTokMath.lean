/-
  Tokens and the texts that they make, in plain numbers. Nothing here speaks of the program.
-/
namespace Go.Proofs.Ytccjjpdhojmcgaa.TokMath

abbrev Tok := Int × Int × Int
/-- A byte or a repeat. -/
def TokRight (t : Tok) : Prop := if t.2.1 = 0 then (0 ≤ t.1 ∧ t.1 ≤ 255) ∧ t.2.2 = 0 else t.1 = 0 ∧ (3 ≤ t.2.1 ∧ t.2.1 ≤ 258) ∧ (1 ≤ t.2.2 ∧ t.2.2 ≤ 32768)
instance (t : Tok) : Decidable (TokRight t) := by unfold TokRight; exact inferInstance
/-- So many bytes, each the one d ahead of it. -/
def copyN (d : Nat) : Nat → List Int → List Int
  | 0, O => O
  | k + 1, O => copyN d k (O ++ [O.getD (O.length - d) 0])
theorem copy_length (d : Nat) : ∀ k O, (copyN d k O).length = O.length + k
  | 0, _ => rfl
  | k + 1, O => by
    show (copyN d k (O ++ [O.getD (O.length - d) 0])).length = _
    rw [copy_length d k, List.length_append, List.length_singleton]
    omega
/-- One step more, at the end. -/
theorem copy_snoc (d : Nat) : ∀ k O, copyN d (k + 1) O = copyN d k O ++ [(copyN d k O).getD ((copyN d k O).length - d) 0]
  | 0, _ => rfl
  | k + 1, O => by
    have h := copy_snoc d k (O ++ [O.getD (O.length - d) 0])
    exact h
theorem getD_shift (P O : List Int) (d : Nat) (_h0 : 0 < d) (h : d ≤ O.length) : (P ++ O).getD ((P ++ O).length - d) 0 = O.getD (O.length - d) 0 := by
  rw [List.getD_eq_getElem?_getD, List.getD_eq_getElem?_getD, List.length_append, List.getElem?_append_right (by omega)]
  congr 2
  omega
theorem copy_shift (P : List Int) (d : Nat) (h0 : 0 < d) : ∀ k O, d ≤ O.length → copyN d k (P ++ O) = P ++ copyN d k O
  | 0, _, _ => rfl
  | k + 1, O, h => by
    show copyN d k (P ++ O ++ [(P ++ O).getD ((P ++ O).length - d) 0]) = P ++ copyN d k (O ++ [O.getD (O.length - d) 0])
    rw [getD_shift P O d h0 h, List.append_assoc, copy_shift P d h0 k _ (by rw [List.length_append]; omega)]
theorem copy_pre (d : Nat) : ∀ k O, ∃ M, copyN d k O = O ++ M ∧ M.length = k
  | 0, O => ⟨[], by simp [copyN], rfl⟩
  | k + 1, O => by
    obtain ⟨M, h, hl⟩ := copy_pre d k (O ++ [O.getD (O.length - d) 0])
    refine ⟨[O.getD (O.length - d) 0] ++ M, ?_, by rw [List.length_append, List.length_singleton, hl]; omega⟩
    show copyN d k (O ++ [O.getD (O.length - d) 0]) = _
    rw [h, List.append_assoc]
/-- All are bytes. -/
def Bytes (O : List Int) : Prop := ∀ x ∈ O, 0 ≤ x ∧ x ≤ 255
theorem getD_byte {O : List Int} (h : Bytes O) (i : Nat) : 0 ≤ O.getD i 0 ∧ O.getD i 0 ≤ 255 := by
  rcases Nat.lt_or_ge i O.length with k | k
  · rw [List.getD_eq_getElem?_getD, List.getElem?_eq_getElem k]
    exact h _ (List.getElem_mem k)
  · rw [List.getD_eq_getElem?_getD, List.getElem?_eq_none k]
    exact ⟨Int.le_refl _, by decide⟩
theorem bytes_snoc {O : List Int} {x : Int} (h : Bytes O) (hx : 0 ≤ x ∧ x ≤ 255) : Bytes (O ++ [x]) := by
  intro y hy
  rcases List.mem_append.mp hy with k | k
  · exact h y k
  · rw [List.mem_singleton.mp k]
    exact hx
theorem copy_bytes (d : Nat) : ∀ k O, Bytes O → Bytes (copyN d k O)
  | 0, _, h => h
  | k + 1, _, h => copy_bytes d k _ (bytes_snoc h (getD_byte h _))
/-- What is there behind a token. -/
def tokApp (O : List Int) (t : Tok) : List Int := if t.2.1 = 0 then O ++ [t.1] else copyN t.2.2.toNat t.2.1.toNat O
theorem app_pre {t : Tok} (ht : TokRight t) (O : List Int) : ∃ M, tokApp O t = O ++ M ∧ 1 ≤ M.length ∧ M.length ≤ 258 := by
  unfold TokRight at ht
  unfold tokApp
  by_cases h : t.2.1 = 0
  · rw [if_pos h]
    exact ⟨[t.1], rfl, Nat.le_refl _, by simp⟩
  · rw [if_neg h] at ht
    rw [if_neg h]
    obtain ⟨M, e, hl⟩ := copy_pre t.2.2.toNat t.2.1.toNat O
    exact ⟨M, e, by omega, by omega⟩
theorem app_shift {t : Tok} (ht : TokRight t) (P O : List Int) (hd : t.2.2 ≤ O.length) : tokApp (P ++ O) t = P ++ tokApp O t := by
  unfold TokRight at ht
  unfold tokApp
  by_cases h : t.2.1 = 0
  · rw [if_pos h, if_pos h, List.append_assoc]
  · rw [if_neg h] at ht
    rw [if_neg h, if_neg h, copy_shift P _ (by omega) _ _ (by omega)]
theorem app_bytes {t : Tok} (ht : TokRight t) {O : List Int} (hO : Bytes O) : Bytes (tokApp O t) := by
  unfold TokRight at ht
  unfold tokApp
  by_cases h : t.2.1 = 0
  · rw [if_pos h] at ht
    rw [if_pos h]
    exact bytes_snoc hO ht.1
  · rw [if_neg h]
    exact copy_bytes _ _ _ hO
/-- What tokens make behind what is there, without a limit. -/
def run (O : List Int) : List Tok → Option (List Int)
  | [] => some O
  | t :: R => if TokRight t ∧ t.2.2 ≤ (O.length : Int) then run (tokApp O t) R else none
/-- With the limit; b bytes stood ahead. -/
def expandL (b : Nat) (O : List Int) : List Tok → Option (List Int)
  | [] => some (O.drop b)
  | t :: R => if TokRight t ∧ t.2.2 ≤ (O.length : Int) then (if (tokApp O t).length ≤ b + 12000 then expandL b (tokApp O t) R else none) else none
theorem run_grow : ∀ {L : List Tok} {O F : List Int}, run O L = some F → ∃ M, F = O ++ M ∧ L.length ≤ M.length
  | [], O, F, h => by
    cases h
    exact ⟨[], by simp, Nat.le_refl _⟩
  | t :: R, O, F, h => by
    unfold run at h
    split at h
    · rename_i q
      obtain ⟨M, e, h1, _⟩ := app_pre q.1 O
      obtain ⟨M', e', h2⟩ := run_grow h
      refine ⟨M ++ M', by rw [e', e, List.append_assoc], ?_⟩
      rw [List.length_append, List.length_cons]
      omega
    · cases h
theorem expand_run : ∀ {L : List Tok} {O F : List Int} (b : Nat), run O L = some F → F.length ≤ b + 12000 → expandL b O L = some (F.drop b)
  | [], O, F, b, h, _ => by cases h; rfl
  | t :: R, O, F, b, h, hl => by
    unfold run at h
    split at h
    · rename_i q
      unfold expandL
      rw [if_pos q]
      obtain ⟨M, e, _⟩ := run_grow h
      rw [if_pos (by rw [e, List.length_append] at hl; omega)]
      exact expand_run b h hl
    · cases h
theorem run_app : ∀ (L1 L2 : List Tok) (O : List Int), run O (L1 ++ L2) = (run O L1).bind fun A => run A L2
  | [], _, _ => rfl
  | t :: R, L2, O => by
    show (if TokRight t ∧ t.2.2 ≤ (O.length : Int) then run (tokApp O t) (R ++ L2) else none) = (if TokRight t ∧ t.2.2 ≤ (O.length : Int) then run (tokApp O t) R else none).bind fun A => run A L2
    by_cases q : TokRight t ∧ t.2.2 ≤ (O.length : Int)
    · rw [if_pos q, if_pos q]
      exact run_app R L2 _
    · rw [if_neg q, if_neg q]
      rfl
theorem run_shift (P : List Int) : ∀ {L : List Tok} {O F : List Int}, run O L = some F → run (P ++ O) L = some (P ++ F)
  | [], O, F, h => by cases h; rfl
  | t :: R, O, F, h => by
    unfold run at h
    split at h
    · rename_i q
      unfold run
      rw [if_pos ⟨q.1, by rw [List.length_append]; have := q.2; omega⟩, app_shift q.1 P O q.2]
      exact run_shift P h
    · cases h
theorem run_snoc {L : List Tok} {O F : List Int} {t : Tok} (h : run O L = some F) (ht : TokRight t) (hd : t.2.2 ≤ (F.length : Int)) : run O (L ++ [t]) = some (tokApp F t) := by
  rw [run_app, h]
  show run F [t] = _
  unfold run
  rw [if_pos ⟨ht, hd⟩]
  rfl
/-- What a law on tokens asks. -/
theorem parts {L : List Tok} {F : List Int} (h : run [] L = some F) (hl : F.length ≤ 12000) (k : Nat) : ∃ A B, F = A ++ B ∧ expandL 0 [] L = some F ∧ expandL 0 [] (L.take k) = some A ∧ expandL A.length A (L.drop k) = some B ∧ (∀ P : List Int, expandL P.length P L = some F) ∧ L.length ≤ F.length ∧ A.length ≤ 12000 := by
  have h0 := h
  rw [← List.take_append_drop k L, run_app] at h0
  cases hA : run [] (L.take k) with
  | none => rw [hA] at h0; cases h0
  | some A =>
    rw [hA] at h0
    have h1 : run A (L.drop k) = some F := h0
    obtain ⟨B, e, _⟩ := run_grow h1
    have hAl : A.length ≤ 12000 := by rw [e, List.length_append] at hl; omega
    obtain ⟨M, e2, h2⟩ := run_grow h
    refine ⟨A, B, e, ?_, ?_, ?_, fun P => ?_, ?_, hAl⟩
    · rw [expand_run 0 h (by omega), List.drop_zero]
    · rw [expand_run 0 hA (by omega), List.drop_zero]
    · rw [expand_run A.length h1 (by omega), e, List.drop_left]
    · have := run_shift P h
      rw [List.append_nil] at this
      rw [expand_run P.length this (by rw [List.length_append]; omega), List.drop_left]
    · rw [e2]
      simpa using h2

end Go.Proofs.Ytccjjpdhojmcgaa.TokMath
