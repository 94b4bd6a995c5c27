/-
  The law FnExactRunsBack, over what the program answers.
-/
import Derived.Test.YtjdfmbdcfdafjaaRows
import Derived.Test.YtjdfmbdcfdafjaaBase
import Derived.Test.YtjdfmbdcfdafjaaIntsLib
import Derived.Test.YtjdfmbdcfdafjaaRunsMath
import Derived.Test.YtjdfmbdcfdafjaaDuoLib
import Derived.Test.YtjdfmbdcfdafjaaRunWalks
import Derived.Test.YtjdfmbdcfdafjaaRunsAns
import Derived.Test.YtjdfmbdcfdafjaaRunsBackLaw
import Derived.WalkKit
import Derived.ProofKit
import Derived.Below
import Derived.Lib.SmallJoins
namespace Go.Proofs.Ytjdfmbdcfdafjaa
open Go.RowKit Go.Joins RunsMath

theorem dst_of_down {w : World} {base g : Nat} {L : List (Int × Int)} (h : DOwn w base g L.length (fun j => L.getD j (0, 0))) : Dst w w.heap.size (some ⟨g, 0, none⟩) L.length L := by
  refine ⟨Nat.le_refl _, (fun e => by cases e), .inr ⟨g, 0, rfl, h.lt, h.lt, fun j u hu => ?_⟩⟩
  obtain ⟨_, cur, h2, h3, h4⟩ := h
  have hj : j < L.length * 2 := by
    rcases Nat.lt_or_ge j (L.length * 2) with k | k
    · exact k
    · rw [List.getElem?_eq_none (by rw [dcells_length]; exact k)] at hu; cases hu
  rw [Nat.zero_add, cell_of_block h2]
  obtain ⟨q, hq⟩ : ∃ q, j = q * 2 ∨ j = q * 2 + 1 := ⟨j / 2, by omega⟩
  rcases hq with rfl | rfl
  · rw [dcells_get0 L q (by omega)] at hu
    rw [← hu]
    exact (h4 q (by omega)).1
  · rw [dcells_get1 L q (by omega)] at hu
    rw [← hu]
    exact (h4 q (by omega)).2
theorem back_short : ∀ {L : List (Int × Int)} {z : Nat} {P O : List Int}, back z P L = some O → O.length = z
  | [], z, P, O, h => by
    unfold back at h
    by_cases e : P.length = z
    · rw [if_pos e] at h
      cases h
      exact e
    · rw [if_neg e] at h
      cases h
  | r :: L, z, P, O, h => by
    unfold back at h
    split at h
    · cases h
    · rename_i more _
      split at h
      · exact back_short h
      · cases h
theorem NumRow.sl {w : World} {S : Nat} {v : Value} {O : List Int} (h : NumRow w S v O) : ∃ a c, v = .slice a O.length c ∧ Came w a O.length (fun j => O.getD j 0) ∧ ∀ g off, a = some ⟨g, off, none⟩ → g < w.heap.size := by
  obtain ⟨a, c, rfl, _, _, hC, _⟩ := h.form
  refine ⟨a, c, rfl, hC, fun g off e => ?_⟩
  subst e
  rcases h.2 with ⟨e, _⟩ | ⟨g', cap, cur, e, _, hg, _⟩
  · cases e
  · cases e
    exact block_lt hg

theorem FnExactRunsBack_over (hA : BackAnswer) (a : Option Addr) (n cap : Nat) (L : List (Int × Int)) (z : Int) (w : World) (hn : n = L.length) (hC : DCame w a n (fun j => L.getD j (0, 0))) (hf : ∀ r ∈ L, (Lit.int .i64 r.1).wf = true ∧ (Lit.int .i64 r.2).wf = true) (hl : n ≤ maxLen) (hz : (Lit.int .i64 z).wf = true) :
    Calls Try.prog 5 #[.slice a n cap, .int .i64 z] w fun e w' => e = .returned (.bool true) ∧ Below w.heap.size w w' := by
  subst hn
  by_cases h : (L.length : Int) ≤ 1048576
  · cases hb : backOf L z with
    | some O =>
      have hO : O.length ≤ 320 := by
        unfold backOf at hb
        split at hb
        · rename_i q
          have := back_short hb
          omega
        · cases hb
      refine FnExactRunsBack_at a L.length cap O.length _ (fun j => O.getD j 0) true w hC h (by omega) z (fun g w q => ?_) (fun g w q => ?_)
      · refine (specBack _ _ L z w (dst_of_down q) (by omega)).mono ?_
        rintro e w1 h1
        rw [hb] at h1
        obtain ⟨h2, v, rfl, h3⟩ := h1
        obtain ⟨a1, c1, rfl, h4, h5⟩ := h3.sl
        exact ⟨a1, c1, rfl, h4, h5, h2⟩
      · exact (hA _ _ L z w q.came (Nat.le_refl _) (by omega) hf hz).1 O hb
    | none =>
      refine FnExactRunsBack_at a L.length cap 0 _ (fun _ => 0) false w hC h (by omega) z (fun g w q => ?_) (fun g w q => ?_)
      · refine (specBack _ _ L z w (dst_of_down q) (by omega)).mono ?_
        rintro e w1 h1
        rw [hb] at h1
        obtain ⟨h2, g1, rfl, h3⟩ := h1
        exact ⟨_, 0, rfl, .inl rfl, fun g off e => by cases e; exact h3, h2⟩
      · refine ((hA _ _ L z w q.came (Nat.le_refl _) (by omega) hf hz).2 hb).mono ?_
        rintro e w1 ⟨a', cap', rfl, h2⟩
        exact ⟨a', cap', rfl, .inl rfl, h2⟩
  · exact FnExactRunsBack_big a L.length cap z w h hl

end Go.Proofs.Ytjdfmbdcfdafjaa
