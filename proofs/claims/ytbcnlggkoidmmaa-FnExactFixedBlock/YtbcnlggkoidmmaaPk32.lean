/-
  The walk of the program's tellSymbols over the two functions that it is handed (parts).
-/
import Derived.Test.YtbcnlggkoidmmaaRows
import Derived.Test.YtbcnlggkoidmmaaPk01
import Derived.Test.YtbcnlggkoidmmaaPk07
import Derived.Test.YtbcnlggkoidmmaaPk09
import Derived.Test.YtbcnlggkoidmmaaPk02
import Derived.Test.YtbcnlggkoidmmaaPk27
import Derived.Test.YtbcnlggkoidmmaaPk28
import Derived.WalkKit
import Derived.ProofKit
import Derived.WalkLawsBesides
import Derived.Below
import Derived.Deep.LoopGhost
import Derived.Lib.SmallJoins
namespace Go.Proofs.Ytbcnlggkoidmmaa
open Go.RowKit Go.Joins TokMath StepMath TellMath

set_option maxRecDepth 100000 in
set_option maxHeartbeats 3200000 in
theorem tell_parts (p1 p2 q : Nat) (Gd : Bool → Cod → Prop) (I : World → List (Bool × Cod) → Prop) (T : World → Nat → Prop) (w0 w : World) (a : Option Addr) (c : Nat) (L : List Tok)
    (hC : TCame w0 a L.length (fun j => L.getD j (0, 0, 0))) (hL : L.length ≤ 12000) (hS : Stays w0 I T) 
    (h1 : ∀ (w : World) (S : List (Bool × Cod)) (s : Cod), I w S → Gd false s → S.length ≤ 24001 → Calls Try.prog 70 #[codV s, .pointer (some ⟨p1, 0, none⟩), .pointer (some ⟨q, 0, none⟩)] w fun e w' => e = .returned (.tuple #[]) ∧ I w' (S ++ [(false, s)]) ∧ w.heap.size ≤ w'.heap.size ∧ ∀ g, g < w.heap.size → ¬ T w g → w'.heap[g]? = w.heap[g]?)
    (h2 : ∀ (w : World) (S : List (Bool × Cod)) (s : Cod), I w S → Gd true s → S.length ≤ 24001 → Calls Try.prog 70 #[codV s, .pointer (some ⟨p2, 0, none⟩), .pointer (some ⟨q, 0, none⟩)] w fun e w' => e = .returned (.tuple #[]) ∧ I w' (S ++ [(true, s)]) ∧ w.heap.size ≤ w'.heap.size ∧ ∀ g, g < w.heap.size → ¬ T w g → w'.heap[g]? = w.heap[g]?)
    (hG : ∀ t ∈ L, TokRight t → ∀ x ∈ symsT t, Gd x.1 x.2) (hE : Gd false (256, 0, 0)) (hI : I w []) :
    Calls Try.prog 28 #[.slice a L.length c, .func (.func 70) #[] #[.pointer (some ⟨p1, 0, none⟩), .pointer (some ⟨q, 0, none⟩)], .func (.func 70) #[] #[.pointer (some ⟨p2, 0, none⟩), .pointer (some ⟨q, 0, none⟩)]] w fun e w' =>
      ((∀ t ∈ L, TokRight t) → e = .returned (.bool true) ∧ I w' (symsL L ++ [(false, (256, 0, 0))])) ∧ (¬ (∀ t ∈ L, TokRight t) → e = .returned (.bool false) ∧ ∃ S, I w' S) := by
  have HC := hid_of hC
  have HS := hid_of hS
  have H1 := hid_of h1
  have H2 := hid_of h2
  have HG := hid_of hG
  have HE := hid_of hE
  have HI := hid_of hI
  clear hC hS h1 h2 hG hE hI
  go_enter Try.func28, Try.ntmps28
  go_wp2_with fail
  go_loopg [14] (L.length + 1) (fun gk i w' => ∃ (j : Nat), j ≤ L.length ∧ L.length - j ≤ gk ∧ i = .int .i64 j ∧ Hid (I w' (symsL (L.take j)) ∧ ∀ t ∈ L.take j, TokRight t))
  case atStart => exact ⟨0, Nat.zero_le _, by omega, rfl, HI.out, fun t ht => by cases ht⟩
  case round =>
    obtain ⟨j, hj, hgk, rfl, hSt⟩ := hrel
    by_cases hlt : j < L.length
    · have dl : decide ((j : Int) < (L.length : Int)) = true := decide_eq_true (by omega)
      rcases HC.out.called (HS.out.below hSt.out.1) with q | ⟨g, off, rfl, hg, hc⟩
      · omega
      obtain ⟨f0, f1, f2⟩ := hc j hlt
      simp only [] at f0 f1 f2
      have hmem : L.getD j (0, 0, 0) ∈ L := by rw [List.getD_eq_getElem?_getD, List.getElem?_eq_getElem hlt]; exact List.getElem_mem hlt
      have HMEM := hid_of hmem
      have HSN := hid_of (symsL_snoc hlt)
      have HTK := hid_of (show L.take (j + 1) = L.take j ++ [L.getD j (0, 0, 0)] by rw [List.take_add_one, List.getElem?_eq_getElem hlt, List.getD_eq_getElem?_getD, List.getElem?_eq_getElem hlt]; rfl)
      obtain ⟨⟨x, y, z⟩, hr⟩ : ∃ r, r = L.getD j (0, 0, 0) := ⟨_, rfl⟩
      rw [← hr] at f0 f1 f2 HSN HTK HMEM
      clear hc hr hmem
      by_cases hT : TokRight (x, y, z)
      · by_cases hy : y = 0
        · subst hy
          obtain ⟨⟨hx0, hx1⟩, hz⟩ : (0 ≤ x ∧ x ≤ 255) ∧ z = 0 := by unfold TokRight at hT; rw [if_pos rfl] at hT; exact hT
          subst hz
          have t1 := as_literal
          have hp := fun w => pieceOf_any x 0 0 w
          rw [piece_byte hx0 hx1] at hp
          have hw : wrap64 x = x := by unfold wrap64; omega
          go_wp2_with fail
          refine (hp _).mono ?_
          rintro e w1 ⟨rfl, hB1⟩
          go_wp2_with fail
          refine (newCoded_any _ _ _ _).mono ?_
          rintro e w2 ⟨rfl, hB2⟩
          have HI2 := hid_of (HS.out.called hSt.out.1 (bnext (bnext (bstart wr _) hB1) hB2)).1
          have hlen : (symsL (L.take j)).length ≤ 24001 := by have := symsL_length (L.take j); rw [List.length_take] at this; omega
          have hgd : Gd false (x, 0, 0) := HG.out _ HMEM.out hT (false, (x, 0, 0)) (by rw [symsT_byte]; exact List.mem_singleton.mpr rfl)
          clear hB1 hB2
          go_wp2_with fail
          refine (H1.out w2 _ (x, 0, 0) HI2.out hgd hlen).mono ?_
          rintro e w3 ⟨rfl, hI3, _, _⟩
          have HN : Hid (I w3 (symsL (L.take (j + 1))) ∧ ∀ t ∈ L.take (j + 1), TokRight t) := by
            refine ⟨by rw [HSN.out, symsT_byte]; exact hI3, fun t ht => ?_⟩
            rw [HTK.out] at ht
            rcases List.mem_append.mp ht with ht | ht
            · exact hSt.out.2 t ht
            · rw [List.mem_singleton.mp ht]; exact hT
          clear hI3
          go_wp2_with fail
          go_roundg (L.length - (j + 1))
          case measure => omega
          case rel => exact ⟨j + 1, by omega, Nat.le_refl _, by go_num, HN⟩
        · obtain ⟨hx, hy2, hz2⟩ : x = 0 ∧ (3 ≤ y ∧ y ≤ 258) ∧ (1 ≤ z ∧ z ≤ 32768) := by unfold TokRight at hT; rw [if_neg hy] at hT; exact hT
          subst hx
          have t1 := no_literal
          have t2 := as_repeat
          have hp := fun w => pieceOf_any 0 y z w
          rw [piece_repeat hy2 hz2] at hp
          have hl := fun w => lengthCode_answer y w (wf_small y (by omega) (by omega))
          have hd := fun w => distCode_answer z w (wf_small z (by omega) (by omega))
          have hg1 : Gd false (LengthCodeOf y) := HG.out _ HMEM.out hT (false, LengthCodeOf y) (by rw [symsT_rep _ _ hy]; exact List.mem_cons_self ..)
          have hg2 : Gd true (DistCodeOf z) := HG.out _ HMEM.out hT (true, DistCodeOf z) (by rw [symsT_rep _ _ hy]; exact List.mem_cons_of_mem _ (List.mem_cons_self ..))
          have hsn : symsL (L.take (j + 1)) = symsL (L.take j) ++ [(false, LengthCodeOf y)] ++ [(true, DistCodeOf z)] := by rw [HSN.out, symsT_rep _ _ hy, List.append_assoc]; rfl
          obtain ⟨⟨l1, l2, l3⟩, hlc⟩ : ∃ r, r = LengthCodeOf y := ⟨_, rfl⟩
          obtain ⟨⟨d1, d2, d3⟩, hdc⟩ : ∃ r, r = DistCodeOf z := ⟨_, rfl⟩
          rw [← hlc] at hl hg1 hsn
          rw [← hdc] at hd hg2 hsn
          simp only [] at hl hd
          have HSN2 := hid_of hsn
          have hlen : (symsL (L.take j)).length ≤ 24000 := by have := symsL_length (L.take j); rw [List.length_take] at this; omega
          clear hlc hdc hsn HSN
          go_wp2_with fail
          refine (hp _).mono ?_
          rintro e w1 ⟨rfl, hB1⟩
          have HI1 := hid_of (HS.out.called hSt.out.1 (bnext (bstart wr _) hB1)).1
          clear hB1 hp
          go_wp2_with fail
          refine (hl _).mono ?_
          rintro e w2 ⟨rfl, hB2⟩
          clear hl
          go_wp2_with fail
          refine (newCoded_any _ _ _ _).mono ?_
          rintro e w3 ⟨rfl, hB3⟩
          have hr3 : w3.heap[w1.heap.size]? = some (.cells #[.int .i64 y, .int .i64 z] 95 (0, 0)) := by
            have h1 : w2.heap[w1.heap.size]? = _ := (hB2.block _ (by simp)).trans (heap_alloc_new w1 _)
            exact (hB3.block _ (block_lt h1)).trans h1
          have hb13 := bnext (bnext (bstart w1 (.cells #[.int .i64 y, .int .i64 z] 95)) hB2) hB3
          obtain ⟨hI3, hT3⟩ := HS.out.called HI1.out hb13
          have hnt : ¬ T w3 w1.heap.size := fun h => by have := HS.out.lt HI1.out (hT3 _ h); omega
          have HI3 := hid_of hI3
          have HR3 := hid_of hr3
          have hl3 := block_lt hr3
          clear hB2 hB3 hI3 hT3 hr3 hb13
          go_wp2_with fail
          refine (H1.out w3 _ (l1, l2, l3) HI3.out hg1 (by omega)).mono ?_
          rintro e w4 ⟨rfl, hI4, hsz4, hk4⟩
          have hr4 : w4.heap[w1.heap.size]? = some (.cells #[.int .i64 y, .int .i64 z] 95 (0, 0)) := (hk4 _ hl3 hnt).trans HR3.out
          have c0 : w4.cell? ⟨w1.heap.size, 0, none⟩ = some (.int .i64 y) := (cell_of_block hr4 0).trans rfl
          have c1 : w4.cell? ⟨w1.heap.size, 1, none⟩ = some (.int .i64 z) := (cell_of_block hr4 1).trans rfl
          have HI4 := hid_of hI4
          clear hI4 hsz4 hk4 hr4 HR3 HI3 HI1
          go_wp2_with fail
          refine (hd _).mono ?_
          rintro e w5 ⟨rfl, hB5⟩
          clear hd
          go_wp2_with fail
          refine (newCoded_any _ _ _ _).mono ?_
          rintro e w6 ⟨rfl, hB6⟩
          have HI6 := hid_of (HS.out.called HI4.out (bnext hB5 hB6)).1
          clear hB5 hB6 HI4
          go_wp2_with fail
          refine (H2.out w6 _ (d1, d2, d3) HI6.out hg2 (by rw [List.length_append, List.length_singleton]; omega)).mono ?_
          rintro e w7 ⟨rfl, hI7, _, _⟩
          have HN : Hid (I w7 (symsL (L.take (j + 1))) ∧ ∀ t ∈ L.take (j + 1), TokRight t) := by
            refine ⟨by rw [HSN2.out]; exact hI7, fun t ht => ?_⟩
            rw [HTK.out] at ht
            rcases List.mem_append.mp ht with ht | ht
            · exact hSt.out.2 t ht
            · rw [List.mem_singleton.mp ht]; exact hT
          clear hI7
          go_wp2_with fail
          go_roundg (L.length - (j + 1))
          case measure => omega
          case rel => exact ⟨j + 1, by omega, Nat.le_refl _, by go_num, HN⟩
      · have t1 := nil_literal
        have t2 := nil_repeat
        have hp := fun w => pieceOf_any x y z w
        rw [piece_none hT] at hp
        go_wp2_with fail
        refine (hp _).mono ?_
        rintro e w1 ⟨rfl, hB1⟩
        have HI1 := hid_of (HS.out.called hSt.out.1 (bnext (bstart wr _) hB1)).1
        clear hB1 hp
        go_wp2_with fail
        go_ret
        exact ⟨fun h => absurd (h _ HMEM.out) hT, fun _ => ⟨rfl, _, by first | exact HI1.out | exact (HS.out.called HI1.out (bstart _ _)).1⟩⟩
    · obtain rfl : L.length = j := by omega
      have dl : decide ((L.length : Int) < (L.length : Int)) = false := decide_eq_false (by omega)
      rw [List.take_length] at hSt
      have hlen := symsL_length L
      go_wp2_with fail
      refine (newCoded_any _ _ _ _).mono ?_
      rintro e w1 ⟨rfl, hB1⟩
      have HI1 := hid_of (HS.out.called hSt.out.1 hB1).1
      clear hB1
      go_wp2_with fail
      refine (H1.out w1 _ (256, 0, 0) HI1.out HE.out (by omega)).mono ?_
      rintro e w2 ⟨rfl, hI2, _, _⟩
      have HI2 := hid_of hI2
      clear hI2
      go_wp2_with fail
      go_ret
      exact ⟨fun _ => ⟨rfl, HI2.out⟩, fun h => absurd hSt.out.2 h⟩
end Go.Proofs.Ytbcnlggkoidmmaa
