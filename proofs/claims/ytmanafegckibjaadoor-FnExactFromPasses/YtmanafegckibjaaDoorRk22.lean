/-
  The walks of the program's steps and sizes of passes.
-/
import Derived.Test.YtmanafegckibjaaDoorRows
import Derived.Test.YtmanafegckibjaaDoorRk01
import Derived.Test.YtmanafegckibjaaDoorRk08
import Derived.Test.YtmanafegckibjaaDoorRk03
import Derived.Test.YtmanafegckibjaaDoorRk13
import Derived.Test.YtmanafegckibjaaDoorRk20
import Derived.WalkKit
import Derived.ProofKit
import Derived.WalkLawsBesides
import Derived.BigQuiet
import Derived.Below
import Derived.Lib.SmallJoins
namespace Go.Proofs.YtmanafegckibjaaDoor
open Go.RowKit Go.Joins RastMath PassMath

theorem isPass_any (p : Int) (w : World) : Calls Tryd.prog 38 #[.int .i64 p] w fun e w' => e = .returned (.bool (decide (PassR p))) ∧ w' = w := by
  by_cases h1 : 0 ≤ p
  · have d1 : decide (0 ≤ p) = true := decide_eq_true h1
    have hh : decide (PassR p) = decide (p < 7) := decide_eq_decide.mpr ⟨fun h => by have := h.2; omega, fun h => ⟨h1, by omega⟩⟩
    rw [hh]
    clear h1 hh
    generalize hb : decide (p < 7) = b
    go_enter Tryd.func38, Tryd.ntmps38
    go_wp2_with fail
    go_ret
    exact ⟨rfl, rfl⟩
  · have d1 : decide (0 ≤ p) = false := decide_eq_false h1
    rw [decide_eq_false (fun h : PassR p => h1 h.1)]
    clear h1
    go_enter Tryd.func38, Tryd.ntmps38
    go_wp2_with fail
    go_ret
    exact ⟨rfl, rfl⟩
/-- What the steps come to. -/
theorem stepsIn_any (s f t : Nat) (w : World) (hs : s ≤ 24) (hf : f ≤ 4) (ht : 1 ≤ t ∧ t ≤ 8) :
    Calls Tryd.prog 39 #[.int .i64 (s : Int), .int .i64 (f : Int), .int .i64 (t : Int)] w fun e w' => e = .returned (.int .i64 (cntP s f t : Int)) ∧ w' = w := by
  unfold cntP
  by_cases h : f < s
  · rw [if_pos h]
    obtain ⟨q, hq⟩ : ∃ q, q = (s - f - 1) / t := ⟨_, rfl⟩
    have hqb : q ≤ 24 := by rw [hq]; exact Nat.le_trans (Nat.div_le_self _ _) (by omega)
    have d0 : decide ((s : Int) ≤ (f : Int)) = false := decide_eq_false (by omega)
    have e1 : ((s : Int) - (f : Int) - 1) = ((s - f - 1 : Nat) : Int) := by omega
    have e2 : ((s : Int) - (f : Int) - 1) / (t : Int) = (q : Int) := by rw [e1, hq]; simp
    have e3 : ((s : Int) - (f : Int) - 1).tdiv (t : Int) = (q : Int) := by rw [e1, hq, Int.tdiv_eq_ediv_of_nonneg (by omega)]; simp
    have n0 : ¬ ((t : Int) = 0) := by omega
    rw [← hq]
    clear hq e1
    go_enter Tryd.func39, Tryd.ntmps39
    go_wp2_with fail
    go_ret
    exact ⟨by go_num, rfl⟩
  · rw [if_neg h]
    have d0 : s ≤ f := by omega
    clear h
    go_enter Tryd.func39, Tryd.ntmps39
    go_wp2_with fail
    go_ret
    exact ⟨rfl, rfl⟩
theorem passStep_any (p : Int) (w : World) (hG : GridG w) : Calls Tryd.prog 15 #[.int .i64 p] w fun e w' => e = .returned (.tuple #[.int .i64 (stepV px p), .int .i64 (stepV py p), .int .i64 (stepV pdx p), .int .i64 (stepV pdy p)]) ∧ Below w.heap.size w w' := by
  have hi := isPass_any p
  unfold stepV
  by_cases h : PassR p
  · rw [decide_eq_true h] at hi
    rw [if_pos h, if_pos h, if_pos h, if_pos h]
    obtain ⟨n, hn⟩ := Int.eq_ofNat_of_zero_le h.1
    subst hn
    have hn7 : n < 7 := by have := h.2; omega
    obtain ⟨c0, c1, c2, c3⟩ := hG.2 n hn7
    have lg := hG.1
    rw [Int.toNat_natCast]
    generalize px n = a0 at *
    generalize py n = a1 at *
    generalize pdx n = a2 at *
    generalize pdy n = a3 at *
    have HB := hid_of (bstart w (.cells #[.int .i64 (a0 : Int), .int .i64 (a1 : Int), .int .i64 (a2 : Int), .int .i64 (a3 : Int)] 61))
    have HX : Hid ((w.alloc (.cells #[.int .i64 (a0 : Int), .int .i64 (a1 : Int), .int .i64 (a2 : Int), .int .i64 (a3 : Int)] 61)).heap[w.heap.size]? = some (.cells #[.int .i64 (a0 : Int), .int .i64 (a1 : Int), .int .i64 (a2 : Int), .int .i64 (a3 : Int)] 61 (0, 0))) := heap_alloc_new w _
    clear hG h
    go_enter Tryd.func15, Tryd.ntmps15
    go_wp2_with fail
    refine (hi _).mono ?_
    rintro e w1 ⟨rfl, rfl⟩
    go_wp2_with fail
    go_quiet (fail)
    go_wp2_with fail
    refine bodyPost_ret (v := .tuple #[.int .i64 (a0 : Int), .int .i64 (a1 : Int), .int .i64 (a2 : Int), .int .i64 (a3 : Int)]) ?_ rfl ⟨rfl, bdraws HB.out _⟩
    simp [results, Tryd.results15, go_sem]
  · rw [decide_eq_false h] at hi
    rw [if_neg h, if_neg h, if_neg h, if_neg h]
    clear h
    go_enter Tryd.func15, Tryd.ntmps15
    go_wp2_with fail
    refine (hi _).mono ?_
    rintro e w1 ⟨rfl, rfl⟩
    go_wp2_with fail
    refine bodyPost_ret (v := .tuple #[.int .i64 0, .int .i64 0, .int .i64 0, .int .i64 0]) ?_ rfl ⟨rfl, Below.refl _ _⟩
    simp [results, Tryd.results15, go_sem]
set_option maxHeartbeats 1600000 in
theorem passSize_any (W H p : Int) (w : World) (hG : GridG w) : Calls Tryd.prog 12 #[.int .i64 W, .int .i64 H, .int .i64 p] w fun e w' => e = .returned (.tuple #[.int .i64 (wideV W H p), .int .i64 (highV W H p)]) ∧ Below w.heap.size w w' := by
  have hi := isPass_any p
  have h1 := isSide_any W
  have h2 := isSide_any H
  unfold wideV highV
  by_cases hp : PassR p
  · rw [decide_eq_true hp] at hi
    by_cases hw : SideR W
    · rw [decide_eq_true hw] at h1
      by_cases hh : SideR H
      · rw [decide_eq_true hh] at h2
        rw [if_pos ⟨hw, hh, hp⟩, if_pos ⟨hw, hh, hp⟩]
        obtain ⟨n, hn⟩ := Int.eq_ofNat_of_zero_le hp.1
        subst hn
        obtain ⟨A, hA⟩ := Int.eq_ofNat_of_zero_le (show 0 ≤ W by have := hw.1; omega)
        subst hA
        obtain ⟨B, hB⟩ := Int.eq_ofNat_of_zero_le (show 0 ≤ H by have := hh.1; omega)
        subst hB
        have hn7 : n < 7 := by have := hp.2; omega
        have hA24 : A ≤ 24 := by have := hw.2; omega
        have hB24 : B ≤ 24 := by have := hh.2; omega
        obtain ⟨c0, c1, c2, c3⟩ := hG.2 n hn7
        have lg := hG.1
        rw [Int.toNat_natCast, Int.toNat_natCast, Int.toNat_natCast]
        unfold pw ph
        have hs1 := fun V => stepsIn_any A (px n) (pdx n) V hA24 (px_le hn7).1 (pdx_pos hn7)
        have hs2 := fun V => stepsIn_any B (py n) (pdy n) V hB24 (px_le hn7).2 (pdy_pos hn7)
        generalize cntP A (px n) (pdx n) = K1 at *
        generalize cntP B (py n) (pdy n) = K2 at *
        generalize px n = a0 at *
        generalize py n = a1 at *
        generalize pdx n = a2 at *
        generalize pdy n = a3 at *
        have HB := hid_of (bstart w (.cells #[.int .i64 (a0 : Int), .int .i64 (a1 : Int), .int .i64 (a2 : Int), .int .i64 (a3 : Int)] 61))
        have HR : Hid (((K1 = 0 ∨ K2 = 0) → (if K1 = 0 ∨ K2 = 0 then 0 else K1) = 0 ∧ (if K1 = 0 ∨ K2 = 0 then 0 else K2) = 0) ∧ (¬ (K1 = 0 ∨ K2 = 0) → (if K1 = 0 ∨ K2 = 0 then 0 else K1) = K1 ∧ (if K1 = 0 ∨ K2 = 0 then 0 else K2) = K2)) := ⟨fun h => ⟨if_pos h, if_pos h⟩, fun h => ⟨if_neg h, if_neg h⟩⟩
        generalize (if K1 = 0 ∨ K2 = 0 then 0 else K1) = r1 at HR ⊢
        generalize (if K1 = 0 ∨ K2 = 0 then 0 else K2) = r2 at HR ⊢
        clear hG hp hw hh
        go_enter Tryd.func12, Tryd.ntmps12
        go_wp2_with fail
        refine (hi _).mono ?_
        rintro e w1 ⟨rfl, rfl⟩
        go_wp2_with fail
        refine (h1 _).mono ?_
        rintro e w2 ⟨rfl, rfl⟩
        go_wp2_with fail
        refine (h2 _).mono ?_
        rintro e w1 ⟨rfl, rfl⟩
        go_wp2_with fail
        go_quiet ((go_at_call 39; first | (guard_target = Calls _ _ #[Value.int IntKind.i64 (A : Int), _, _] _ _; exact Calls.quiet_of_same (hs1 _)) | (guard_target = Calls _ _ #[Value.int IntKind.i64 (B : Int), _, _] _ _; exact Calls.quiet_of_same (hs2 _))))
        by_cases e1 : K1 = 0
        · obtain ⟨u1, u2⟩ := HR.out.1 (.inl e1)
          subst e1 u1 u2
          go_wp2_with fail
          refine bodyPost_ret (v := .tuple #[.int .i64 0, .int .i64 0]) ?_ rfl ⟨rfl, bdraws HB.out _⟩
          simp [results, Tryd.results12, go_sem]
        · have b1 : ((K1 : Int) == 0) = false := by simp; omega
          by_cases e2 : K2 = 0
          · obtain ⟨u1, u2⟩ := HR.out.1 (.inr e2)
            subst e2 u1 u2
            go_wp2_with fail
            refine bodyPost_ret (v := .tuple #[.int .i64 0, .int .i64 0]) ?_ rfl ⟨rfl, bdraws HB.out _⟩
            simp [results, Tryd.results12, go_sem]
          · have b2 : ((K2 : Int) == 0) = false := by simp; omega
            obtain ⟨u1, u2⟩ := HR.out.2 (by omega)
            subst u1 u2
            go_wp2_with fail
            refine bodyPost_ret (v := .tuple #[.int .i64 (r1 : Int), .int .i64 (r2 : Int)]) ?_ rfl ⟨rfl, bdraws HB.out _⟩
            simp [results, Tryd.results12, go_sem]
      · rw [decide_eq_false hh] at h2
        rw [if_neg (fun h => hh h.2.1), if_neg (fun h => hh h.2.1)]
        clear hp hw hh
        go_enter Tryd.func12, Tryd.ntmps12
        go_wp2_with fail
        refine (hi _).mono ?_
        rintro e w1 ⟨rfl, rfl⟩
        go_wp2_with fail
        refine (h1 _).mono ?_
        rintro e w2 ⟨rfl, rfl⟩
        go_wp2_with fail
        refine (h2 _).mono ?_
        rintro e w1 ⟨rfl, rfl⟩
        go_wp2_with fail
        refine bodyPost_ret (v := .tuple #[.int .i64 0, .int .i64 0]) ?_ rfl ⟨rfl, Below.refl _ _⟩
        simp [results, Tryd.results12, go_sem]
    · rw [decide_eq_false hw] at h1
      rw [if_neg (fun h => hw h.1), if_neg (fun h => hw h.1)]
      clear hp hw
      go_enter Tryd.func12, Tryd.ntmps12
      go_wp2_with fail
      refine (hi _).mono ?_
      rintro e w1 ⟨rfl, rfl⟩
      go_wp2_with fail
      refine (h1 _).mono ?_
      rintro e w2 ⟨rfl, rfl⟩
      go_wp2_with fail
      refine bodyPost_ret (v := .tuple #[.int .i64 0, .int .i64 0]) ?_ rfl ⟨rfl, Below.refl _ _⟩
      simp [results, Tryd.results12, go_sem]
  · rw [decide_eq_false hp] at hi
    rw [if_neg (fun h => hp h.2.2), if_neg (fun h => hp h.2.2)]
    clear hp
    go_enter Tryd.func12, Tryd.ntmps12
    go_wp2_with fail
    refine (hi _).mono ?_
    rintro e w1 ⟨rfl, rfl⟩
    go_wp2_with fail
    refine bodyPost_ret (v := .tuple #[.int .i64 0, .int .i64 0]) ?_ rfl ⟨rfl, Below.refl _ _⟩
    simp [results, Tryd.results12, go_sem]
end Go.Proofs.YtmanafegckibjaaDoor
