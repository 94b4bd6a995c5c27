/-
  Unpacking in plain numbers: nothing is read twice; the lengths of type 2 are right ones. Nothing here speaks of the program.
-/
import Derived.Test.YtbcnlggkoidmmaaGreatDoorPk16
import Derived.Test.YtbcnlggkoidmmaaGreatDoorPk12
namespace Go.Proofs.YtbcnlggkoidmmaaGreatDoor
open OutMath CodeMath TakeMath HitMath WayMath StepMath TokMath InfMath RunsMath

theorem sym_go {s : ByteArray} {f : Nat → Int} {n p q p3 : Nat} (h : symE s f n p = .ok (q, p3)) : p < p3 ∧ p3 ≤ 8 * s.size ∧ q < n := by
  rcases sym_cases f n s p with ⟨y, k, h1, h2, h3, _, h5⟩ | ⟨c, _, _, h5⟩
  · rw [h5] at h
    cases h
    omega
  · rw [h5] at h
    cases h
theorem take_go {s : ByteArray} {p n : Nat} {x : Int} {p' : Nat} (h : takeE s p n = .ok (x, p')) : p' = p + n ∧ p' ≤ 8 * s.size ∧ x = num s p n := by
  unfold takeE at h
  split at h
  · cases h
    exact ⟨rfl, by omega, rfl⟩
  · cases h
theorem syms_go {s : ByteArray} {most : Nat} {f1 : Nat → Int} {n1 : Nat} {f2 : Nat → Int} {n2 : Nat} {R : List Int} {q : Nat} : ∀ (m p : Nat) (O : List Int), symbolsF s most f1 n1 f2 n2 m p O = .ok (R, q) → p < q ∧ q ≤ 8 * s.size
  | 0, p, O, h => by
    rw [symbolsF] at h
    cases h
  | m + 1, p, O, h => by
    cases e : symE s f1 n1 p with
    | error c =>
      rw [syms_err e] at h
      cases h
    | ok r =>
      obtain ⟨y, p1⟩ := r
      have g1 := sym_go e
      by_cases hy : y = 256
      · subst hy
        rw [syms_end e] at h
        cases h
        omega
      · by_cases hl : y < 256
        · rw [syms_byte e hl] at h
          split at h
          · cases h
          · have := syms_go m p1 _ h
            omega
        · by_cases h2 : 285 < y
          · rw [syms_over e h2] at h
            cases h
          · rw [syms_far e (by omega) (by omega)] at h
            cases e1 : takeE s p1 (lenBits y).1 with
            | error c =>
              rw [far_err e1] at h
              cases h
            | ok r =>
              obtain ⟨x, p2⟩ := r
              have g2 := take_go e1
              cases e2 : symE s f2 n2 p2 with
              | error c =>
                rw [far_err2 e1 e2] at h
                cases h
              | ok r =>
                obtain ⟨qq, p3⟩ := r
                have g3 := sym_go e2
                by_cases hq : 29 < qq
                · rw [far_over e1 e2 hq] at h
                  cases h
                · cases e3 : takeE s p3 (distBits qq).1 with
                  | error c =>
                    rw [far_err3 e1 e2 hq e3] at h
                    cases h
                  | ok r =>
                    obtain ⟨z, p4⟩ := r
                    have g4 := take_go e3
                    rw [far_go e1 e2 hq e3] at h
                    split at h
                    · cases h
                    · split at h
                      · cases h
                      · have := syms_go m p4 _ h
                        omega
theorem all_go {s : ByteArray} {f3 : Nat → Int} {N : Nat} {R : List Int} {q : Nat} : ∀ (m p : Nat) (L : List Int), L.length ≤ N → p ≤ 8 * s.size → allF s f3 N m p L = .ok (R, q) → p ≤ q ∧ q ≤ 8 * s.size ∧ R.length = N
  | 0, p, L, _, _, h => by
    rw [allF] at h
    cases h
  | m + 1, p, L, hL, hp, h => by
    by_cases hlt : L.length < N
    · cases e1 : symE s f3 19 p with
      | error c =>
        rw [all_err hlt e1] at h
        cases h
      | ok r =>
        obtain ⟨y, p1⟩ := r
        have g1 := sym_go e1
        cases e2 : takeE s p1 (bitsOf (y : Int)) with
        | error c =>
          rw [all_err2 hlt e1 e2] at h
          cases h
        | ok r2 =>
          obtain ⟨x, p2⟩ := r2
          have g2 := take_go e2
          cases e3 : tell L ((y : Int), x) with
          | none =>
            rw [all_none hlt e1 e2 e3] at h
            cases h
          | some more =>
            rw [all_some hlt e1 e2 e3] at h
            split at h
            · rename_i hle
              have := all_go m p2 (L ++ more) (by rw [List.length_append]; exact hle) (by omega) h
              omega
            · cases h
    · rw [all_end hlt] at h
      cases h
      omega
/-- What the lengths of type 2 are. -/
theorem tables_go {s : ByteArray} {p : Nat} {L : List Int} {n p' : Nat} (h : tablesE s p = .ok (L, n, p')) : p ≤ p' ∧ p' ≤ 8 * s.size ∧ (∀ v ∈ L, 0 ≤ v ∧ v ≤ 15) ∧ TabRight n L ∧ n ≤ 286 ∧ n ≤ L.length ∧ L.length ≤ n + 30 := by
  unfold tablesE at h
  split at h
  · rename_i h14
    split at h
    · cases h
    · rename_i hov
      split at h
      · rename_i hk
        split at h
        · cases h
        · have q1 := num_bd s p 5
          have q2 := num_bd s (p + 5) 5
          rw [show p2 5 = 32 by decide +kernel] at q1 q2
          generalize num s p 5 = x at *
          generalize num s (p + 5) 5 = y at *
          cases e : allF s (thirdF s (p + 14) (num s (p + 10) 4 + 4).toNat) ((x + 257).toNat + (y + 1).toNat) (8 * s.size + 1) (p + 14 + 3 * (num s (p + 10) 4 + 4).toNat) [] with
          | error c =>
            rw [e] at h
            cases h
          | ok r =>
            obtain ⟨R, q⟩ := r
            rw [e] at h
            dsimp only at h
            split at h
            · rename_i hT
              cases h
              have g := all_go _ _ _ (Nat.zero_le _) (by omega) e
              exact ⟨by omega, g.2.1, all_ok _ _ [] (fun v hv => by cases hv) e, hT, by omega, by omega, by omega⟩
            · cases h
      · cases h
  · cases h
theorem room_of_kind {f : Nat → Int} {n : Nat} (h : kindOf f n = 1 ∨ kindOf f n = 2 ∨ kindOf f n = 3) : room f n ≤ 32768 := by
  unfold kindOf at h
  split at h
  · rename_i q
    rw [room_of_cnt f n q]
    decide
  · split at h
    · omega
    · split at h
      · omega
      · omega
theorem tables_coded {s : ByteArray} {p : Nat} {L : List Int} {n p' : Nat} (h : tablesE s p = .ok (L, n, p')) : Coded (fun i => L.getD i 0) n ∧ Coded (fun i => (L.drop n).getD i 0) (L.length - n) := by
  obtain ⟨_, _, h1, h2, h3, h4, h5⟩ := tables_go h
  refine ⟨⟨by omega, ok_of_list h1 n, room_of_kind (.inr h2.1)⟩, ⟨by omega, ok_of_list (fun v hv => h1 v (List.mem_of_mem_drop hv)) _, room_of_kind h2.2.2⟩⟩
theorem block_go {s : ByteArray} {most : Nat} {k : Int} {p : Nat} {O O' : List Int} {p' : Nat} (h : blockE s most k p O = .ok (O', p')) : p ≤ p' := by
  unfold blockE at h
  split at h
  · unfold storedE at h
    split at h
    · split at h
      · cases h
      · split at h
        · cases h
        · split at h
          · cases h
            unfold wholeAt
            omega
          · cases h
    · cases h
  · split at h
    · have := syms_go _ _ _ h
      omega
    · split at h
      · cases e : tablesE s p with
        | error c =>
          rw [e] at h
          cases h
        | ok r =>
          obtain ⟨L, n, p2⟩ := r
          rw [e] at h
          dsimp only at h
          have g1 := tables_go e
          have := syms_go _ _ _ h
          omega
      · cases h
end Go.Proofs.YtbcnlggkoidmmaaGreatDoor
