/-
  The walk of the program's tellSymbols over the two functions that it is handed (parts).
  The walk of the program's first codes.
  What the program's function is to answer.
  The walk of the program's CodesOf.
-/
import Derived.Test.YtbcnlggkoidmmaaGreatDoorRows
import Derived.Test.YtbcnlggkoidmmaaGreatDoorPk01
import Derived.Test.YtbcnlggkoidmmaaGreatDoorPk02
import Derived.Test.YtbcnlggkoidmmaaGreatDoorPk07
import Derived.Test.YtbcnlggkoidmmaaGreatDoorPk09
import Derived.Test.YtbcnlggkoidmmaaGreatDoorPk29
import Derived.Test.YtbcnlggkoidmmaaGreatDoorPk08
import Derived.Test.YtbcnlggkoidmmaaGreatDoorPk11
import Derived.Test.YtbcnlggkoidmmaaGreatDoorPk05
import Derived.WalkKit
import Derived.ProofKit
import Derived.WalkLawsBesides
import Derived.Below
import Derived.Deep.LoopGhost
import Derived.Lib.SmallJoins
import Derived.RegionTactic
import Derived.BigRegion
import Derived.Deep.RegionWith
import Derived.OwnWalk
namespace Go.Proofs.YtbcnlggkoidmmaaGreatDoor
open Go.RowKit Go.Joins TokMath StepMath TellMath

set_option maxRecDepth 100000 in
set_option maxHeartbeats 3200000 in
theorem tell_parts (p1 p2 q : Nat) (Gd : Bool → Cod → Prop) (I : World → List (Bool × Cod) → Prop) (T : World → Nat → Prop) (w0 w : World) (a : Option Addr) (c : Nat) (L : List Tok)
    (hC : TCame w0 a L.length (fun j => L.getD j (0, 0, 0))) (hL : L.length ≤ 12000) (hS : Stays w0 I T) 
    (h1 : ∀ (w : World) (S : List (Bool × Cod)) (s : Cod), I w S → Gd false s → S.length ≤ 24001 → Calls Tryz.prog 67 #[codV s, .pointer (some ⟨p1, 0, none⟩), .pointer (some ⟨q, 0, none⟩)] w fun e w' => e = .returned (.tuple #[]) ∧ I w' (S ++ [(false, s)]) ∧ w.heap.size ≤ w'.heap.size ∧ ∀ g, g < w.heap.size → ¬ T w g → w'.heap[g]? = w.heap[g]?)
    (h2 : ∀ (w : World) (S : List (Bool × Cod)) (s : Cod), I w S → Gd true s → S.length ≤ 24001 → Calls Tryz.prog 67 #[codV s, .pointer (some ⟨p2, 0, none⟩), .pointer (some ⟨q, 0, none⟩)] w fun e w' => e = .returned (.tuple #[]) ∧ I w' (S ++ [(true, s)]) ∧ w.heap.size ≤ w'.heap.size ∧ ∀ g, g < w.heap.size → ¬ T w g → w'.heap[g]? = w.heap[g]?)
    (hG : ∀ t ∈ L, TokRight t → ∀ x ∈ symsT t, Gd x.1 x.2) (hE : Gd false (256, 0, 0)) (hI : I w []) :
    Calls Tryz.prog 69 #[.slice a L.length c, .func (.func 67) #[] #[.pointer (some ⟨p1, 0, none⟩), .pointer (some ⟨q, 0, none⟩)], .func (.func 67) #[] #[.pointer (some ⟨p2, 0, none⟩), .pointer (some ⟨q, 0, none⟩)]] w fun e w' =>
      ((∀ t ∈ L, TokRight t) → e = .returned (.bool true) ∧ I w' (symsL L ++ [(false, (256, 0, 0))])) ∧ (¬ (∀ t ∈ L, TokRight t) → e = .returned (.bool false) ∧ ∃ S, I w' S) := by
  have HC := hid_of hC
  have HS := hid_of hS
  have H1 := hid_of h1
  have H2 := hid_of h2
  have HG := hid_of hG
  have HE := hid_of hE
  have HI := hid_of hI
  clear hC hS h1 h2 hG hE hI
  go_enter Tryz.func69, Tryz.ntmps69
  go_wp2_with fail
  go_loopg [14] (L.length + 1) (fun gk i w' => ∃ (j : Nat), j ≤ L.length ∧ L.length - j ≤ gk ∧ i = .int .i64 j ∧ Hid (I w' (symsL (L.take j)) ∧ ∀ t ∈ L.take j, TokRight t))
  case atStart => exact ⟨0, Nat.zero_le _, by omega, rfl, HI.out, fun t ht => by cases ht⟩
  case round =>
    obtain ⟨j, hj, hgk, rfl, hSt⟩ := hrel
    by_cases hlt : j < L.length
    · have dl : decide ((j : Int) < (L.length : Int)) = true := decide_eq_true (by omega)
      rcases HC.out.called (HS.out.below hSt.out.1) with q | ⟨g, off, rfl, hg, hc⟩
      · omega
      obtain ⟨f0, f1, f2⟩ := hc j hlt
      simp only [] at f0 f1 f2
      have hmem : L.getD j (0, 0, 0) ∈ L := by rw [List.getD_eq_getElem?_getD, List.getElem?_eq_getElem hlt]; exact List.getElem_mem hlt
      have HMEM := hid_of hmem
      have HSN := hid_of (symsL_snoc hlt)
      have HTK := hid_of (show L.take (j + 1) = L.take j ++ [L.getD j (0, 0, 0)] by rw [List.take_add_one, List.getElem?_eq_getElem hlt, List.getD_eq_getElem?_getD, List.getElem?_eq_getElem hlt]; rfl)
      obtain ⟨⟨x, y, z⟩, hr⟩ : ∃ r, r = L.getD j (0, 0, 0) := ⟨_, rfl⟩
      rw [← hr] at f0 f1 f2 HSN HTK HMEM
      clear hc hr hmem
      by_cases hT : TokRight (x, y, z)
      · by_cases hy : y = 0
        · subst hy
          obtain ⟨⟨hx0, hx1⟩, hz⟩ : (0 ≤ x ∧ x ≤ 255) ∧ z = 0 := by unfold TokRight at hT; rw [if_pos rfl] at hT; exact hT
          subst hz
          have t1 := as_literal
          have hp := fun w => pieceOf_any x 0 0 w
          rw [piece_byte hx0 hx1] at hp
          have hw : wrap64 x = x := by unfold wrap64; omega
          go_wp2_with fail
          refine (hp _).mono ?_
          rintro e w1 ⟨rfl, hB1⟩
          go_wp2_with fail
          refine (newCoded_any _ _ _ _).mono ?_
          rintro e w2 ⟨rfl, hB2⟩
          have HI2 := hid_of (HS.out.called hSt.out.1 (bnext (bnext (bstart wr _) hB1) hB2)).1
          have hlen : (symsL (L.take j)).length ≤ 24001 := by have := symsL_length (L.take j); rw [List.length_take] at this; omega
          have hgd : Gd false (x, 0, 0) := HG.out _ HMEM.out hT (false, (x, 0, 0)) (by rw [symsT_byte]; exact List.mem_singleton.mpr rfl)
          clear hB1 hB2
          go_wp2_with fail
          refine (H1.out w2 _ (x, 0, 0) HI2.out hgd hlen).mono ?_
          rintro e w3 ⟨rfl, hI3, _, _⟩
          have HN : Hid (I w3 (symsL (L.take (j + 1))) ∧ ∀ t ∈ L.take (j + 1), TokRight t) := by
            refine ⟨by rw [HSN.out, symsT_byte]; exact hI3, fun t ht => ?_⟩
            rw [HTK.out] at ht
            rcases List.mem_append.mp ht with ht | ht
            · exact hSt.out.2 t ht
            · rw [List.mem_singleton.mp ht]; exact hT
          clear hI3
          go_wp2_with fail
          go_roundg (L.length - (j + 1))
          case measure => omega
          case rel => exact ⟨j + 1, by omega, Nat.le_refl _, by go_num, HN⟩
        · obtain ⟨hx, hy2, hz2⟩ : x = 0 ∧ (3 ≤ y ∧ y ≤ 258) ∧ (1 ≤ z ∧ z ≤ 32768) := by unfold TokRight at hT; rw [if_neg hy] at hT; exact hT
          subst hx
          have t1 := no_literal
          have t2 := as_repeat
          have hp := fun w => pieceOf_any 0 y z w
          rw [piece_repeat hy2 hz2] at hp
          have hl := fun w => lengthCode_answer y w (wf_small y (by omega) (by omega))
          have hd := fun w => distCode_answer z w (wf_small z (by omega) (by omega))
          have hg1 : Gd false (LengthCodeOf y) := HG.out _ HMEM.out hT (false, LengthCodeOf y) (by rw [symsT_rep _ _ hy]; exact List.mem_cons_self ..)
          have hg2 : Gd true (DistCodeOf z) := HG.out _ HMEM.out hT (true, DistCodeOf z) (by rw [symsT_rep _ _ hy]; exact List.mem_cons_of_mem _ (List.mem_cons_self ..))
          have hsn : symsL (L.take (j + 1)) = symsL (L.take j) ++ [(false, LengthCodeOf y)] ++ [(true, DistCodeOf z)] := by rw [HSN.out, symsT_rep _ _ hy, List.append_assoc]; rfl
          obtain ⟨⟨l1, l2, l3⟩, hlc⟩ : ∃ r, r = LengthCodeOf y := ⟨_, rfl⟩
          obtain ⟨⟨d1, d2, d3⟩, hdc⟩ : ∃ r, r = DistCodeOf z := ⟨_, rfl⟩
          rw [← hlc] at hl hg1 hsn
          rw [← hdc] at hd hg2 hsn
          simp only [] at hl hd
          have HSN2 := hid_of hsn
          have hlen : (symsL (L.take j)).length ≤ 24000 := by have := symsL_length (L.take j); rw [List.length_take] at this; omega
          clear hlc hdc hsn HSN
          go_wp2_with fail
          refine (hp _).mono ?_
          rintro e w1 ⟨rfl, hB1⟩
          have HI1 := hid_of (HS.out.called hSt.out.1 (bnext (bstart wr _) hB1)).1
          clear hB1 hp
          go_wp2_with fail
          refine (hl _).mono ?_
          rintro e w2 ⟨rfl, hB2⟩
          clear hl
          go_wp2_with fail
          refine (newCoded_any _ _ _ _).mono ?_
          rintro e w3 ⟨rfl, hB3⟩
          have hr3 : w3.heap[w1.heap.size]? = some (.cells #[.int .i64 y, .int .i64 z] 174 (0, 0)) := by
            have h1 : w2.heap[w1.heap.size]? = _ := (hB2.block _ (by simp)).trans (heap_alloc_new w1 _)
            exact (hB3.block _ (block_lt h1)).trans h1
          have hb13 := bnext (bnext (bstart w1 (.cells #[.int .i64 y, .int .i64 z] 174)) hB2) hB3
          obtain ⟨hI3, hT3⟩ := HS.out.called HI1.out hb13
          have hnt : ¬ T w3 w1.heap.size := fun h => by have := HS.out.lt HI1.out (hT3 _ h); omega
          have HI3 := hid_of hI3
          have HR3 := hid_of hr3
          have hl3 := block_lt hr3
          clear hB2 hB3 hI3 hT3 hr3 hb13
          go_wp2_with fail
          refine (H1.out w3 _ (l1, l2, l3) HI3.out hg1 (by omega)).mono ?_
          rintro e w4 ⟨rfl, hI4, hsz4, hk4⟩
          have hr4 : w4.heap[w1.heap.size]? = some (.cells #[.int .i64 y, .int .i64 z] 174 (0, 0)) := (hk4 _ hl3 hnt).trans HR3.out
          have c0 : w4.cell? ⟨w1.heap.size, 0, none⟩ = some (.int .i64 y) := (cell_of_block hr4 0).trans rfl
          have c1 : w4.cell? ⟨w1.heap.size, 1, none⟩ = some (.int .i64 z) := (cell_of_block hr4 1).trans rfl
          have HI4 := hid_of hI4
          clear hI4 hsz4 hk4 hr4 HR3 HI3 HI1
          go_wp2_with fail
          refine (hd _).mono ?_
          rintro e w5 ⟨rfl, hB5⟩
          clear hd
          go_wp2_with fail
          refine (newCoded_any _ _ _ _).mono ?_
          rintro e w6 ⟨rfl, hB6⟩
          have HI6 := hid_of (HS.out.called HI4.out (bnext hB5 hB6)).1
          clear hB5 hB6 HI4
          go_wp2_with fail
          refine (H2.out w6 _ (d1, d2, d3) HI6.out hg2 (by rw [List.length_append, List.length_singleton]; omega)).mono ?_
          rintro e w7 ⟨rfl, hI7, _, _⟩
          have HN : Hid (I w7 (symsL (L.take (j + 1))) ∧ ∀ t ∈ L.take (j + 1), TokRight t) := by
            refine ⟨by rw [HSN2.out]; exact hI7, fun t ht => ?_⟩
            rw [HTK.out] at ht
            rcases List.mem_append.mp ht with ht | ht
            · exact hSt.out.2 t ht
            · rw [List.mem_singleton.mp ht]; exact hT
          clear hI7
          go_wp2_with fail
          go_roundg (L.length - (j + 1))
          case measure => omega
          case rel => exact ⟨j + 1, by omega, Nat.le_refl _, by go_num, HN⟩
      · have t1 := nil_literal
        have t2 := nil_repeat
        have hp := fun w => pieceOf_any x y z w
        rw [piece_none hT] at hp
        go_wp2_with fail
        refine (hp _).mono ?_
        rintro e w1 ⟨rfl, hB1⟩
        have HI1 := hid_of (HS.out.called hSt.out.1 (bnext (bstart wr _) hB1)).1
        clear hB1 hp
        go_wp2_with fail
        go_ret
        exact ⟨fun h => absurd (h _ HMEM.out) hT, fun _ => ⟨rfl, _, by first | exact HI1.out | exact (HS.out.called HI1.out (bstart _ _)).1⟩⟩
    · obtain rfl : L.length = j := by omega
      have dl : decide ((L.length : Int) < (L.length : Int)) = false := decide_eq_false (by omega)
      rw [List.take_length] at hSt
      have hlen := symsL_length L
      go_wp2_with fail
      refine (newCoded_any _ _ _ _).mono ?_
      rintro e w1 ⟨rfl, hB1⟩
      have HI1 := hid_of (HS.out.called hSt.out.1 hB1).1
      clear hB1
      go_wp2_with fail
      refine (H1.out w1 _ (256, 0, 0) HI1.out HE.out (by omega)).mono ?_
      rintro e w2 ⟨rfl, hI2, _, _⟩
      have HI2 := hid_of hI2
      clear hI2
      go_wp2_with fail
      go_ret
      exact ⟨fun _ => ⟨rfl, HI2.out⟩, fun h => absurd hSt.out.2 h⟩
end Go.Proofs.YtbcnlggkoidmmaaGreatDoor

namespace Go.Proofs.YtbcnlggkoidmmaaGreatDoor
open Go.RowKit Go.Joins OutMath CodeMath

theorem firstTo_here (g : Nat → Int) (t : Nat) (s : Nat) : upd (firstTo g t) t (first g t) s = firstTo g (t + 1) s := by
  unfold upd firstTo
  by_cases h : s = t
  · rw [if_pos h, if_pos (by omega), h]
  · rw [if_neg h]
    by_cases h2 : s < t
    · rw [if_pos h2, if_pos (by omega)]
    · rw [if_neg h2, if_neg (by omega)]

/-- What the ring of firstCodes has at hand: the counts, the answer's place, and the codes so far. -/
def FirSt (w w' : World) (g : Nat → Int) (t : Nat) : Prop :=
  Six w' w.heap.size 224 g ∧ Six w' (w.heap.size + 1) 223 (fun _ => 0) ∧ Six w' (w.heap.size + 2) 223 (firstTo g t) ∧ Below w.heap.size w w'
theorem fir_start (w : World) (g : Nat → Int) : FirSt w (((w.alloc (.cells (six g) 224)).alloc (.cells (six fun _ => 0) 223)).alloc (.cells (six fun _ => 0) 223)) g 2 := by
  have z1 : (w.alloc (.cells (six g) 224)).heap.size = w.heap.size + 1 := by simp
  have z2 : ((w.alloc (.cells (six g) 224)).alloc (.cells (six fun _ => 0) 223)).heap.size = w.heap.size + 2 := by simp
  refine ⟨?_, ?_, ?_, bal (bal (bstart _ _) _) _⟩
  · show _ = _
    rw [Below.heap_alloc _ _ _ (by simp; omega), Below.heap_alloc _ _ _ (by simp)]
    exact heap_alloc_new w _
  · show _ = _
    rw [Below.heap_alloc _ _ _ (by simp)]
    have k := heap_alloc_new (w.alloc (.cells (six g) 224)) (.cells (six fun _ => 0) 223)
    rw [z1] at k
    exact k
  · refine Six.congr (g := fun _ => 0) ?_ (fun s _ => (firstTo_start g s).symm)
    have k := heap_alloc_new ((w.alloc (.cells (six g) 224)).alloc (.cells (six fun _ => 0) 223)) (.cells (six fun _ => 0) 223)
    rw [z2] at k
    exact k

set_option maxHeartbeats 1600000 in
theorem first_any (g : Nat → Int) (w : World) (hg : ∀ s, 0 ≤ g s ∧ g s ≤ 288) :
    Calls Tryz.prog 141 #[.agg (six g)] w fun e w' => e = .returned (.agg (six (first g))) ∧ Below w.heap.size w w' := by
  have HG : Hid (∀ s, 0 ≤ g s ∧ g s ≤ 288) := hg
  have H0 := hid_of (fir_start w g)
  clear hg
  go_enter Tryz.func141, Tryz.ntmps141
  go_wp2_with fail
  go_loopw [4] (fun i w' => ∃ t : Nat, 2 ≤ t ∧ t ≤ 16 ∧ i = .int .i64 t ∧ Hid (FirSt w w' g t)) (fun i _ => 16 - (intOf i).toNat)
  case atStart => exact ⟨2, by omega, by omega, rfl, H0⟩
  case round =>
    clear H0
    obtain ⟨t, ht1, ht2, rfl, hS⟩ := hrel
    by_cases hlt : t ≤ 15
    · obtain ⟨u, rfl⟩ : ∃ u, t = u + 1 := ⟨t - 1, by omega⟩
      have c0 := hS.out.1.c u (by omega)
      have c1 := hS.out.2.2.1.c u (by omega)
      have c2 := hS.out.2.2.1.c (u + 1) (by omega)
      have f2 := hS.out.2.2.1.f (u + 1)
      have l2 := hS.out.2.2.1.lt
      have e1 : firstTo g (u + 1) u = first g u := by unfold firstTo; rw [if_pos (by omega)]
      have e2 : firstTo g (u + 1) (u + 1) = 0 := by unfold firstTo; rw [if_neg (by omega)]
      rw [e1] at c1
      rw [e2] at c2
      have hb := first_lt g HG.out u (by omega)
      have hgb := HG.out u
      have HE : Hid (first g (u + 1) = 2 * (first g u + g u)) := first_step g (u + 1) (by omega)
      clear e1 e2
      go_wp2_with fail
      go_region
      all_goals
        have HS1 : Hid (FirSt w ((wr.setCell ⟨w.heap.size + 1 + 1, u + 1, none⟩ (.int .i64 (2 * (first g u + g u)))).drew) g (u + 1 + 1)) := by
          refine ⟨?_, ?_, ?_, (Below.setCell (p := ⟨w.heap.size + 2, u + 1, none⟩) hS.out.2.2.2 (by simp) _).drew⟩
          · show (wr.setCell ⟨w.heap.size + 2, u + 1, none⟩ _).heap[_]? = _
            rw [Below.heap_setCell _ _ _ _ (show w.heap.size ≠ w.heap.size + 2 by omega)]
            exact hS.out.1
          · show (wr.setCell ⟨w.heap.size + 2, u + 1, none⟩ _).heap[_]? = _
            rw [Below.heap_setCell _ _ _ _ (show w.heap.size + 1 ≠ w.heap.size + 2 by omega)]
            exact hS.out.2.1
          · have k := (hS.out.2.2.1.set (u + 1) (2 * (first g u + g u))).congr (g' := firstTo g (u + 1 + 1)) (fun i _ => by rw [← HE.out]; exact firstTo_here g (u + 1) i)
            exact k
        go_wp2_with fail
        go_roundw
        case rel => exact ⟨u + 1 + 1, by omega, by omega, by go_num, HS1⟩
        case measure => simp [intOf]; omega
    · obtain rfl : t = 16 := by omega
      have cr := hS.out.2.1.c
      have fr := hS.out.2.1.f
      have lr := hS.out.2.1.lt
      have hB := hS.out.2.2.2
      have e1 : ∀ i, i < 16 → firstTo g 16 i = first g i := fun i hi => by unfold firstTo; rw [if_pos hi]
      have cc : ∀ i, i < 16 → wr.cell? ⟨w.heap.size + 1 + 1, i, none⟩ = some (.int .i64 (first g i)) := fun i hi => by rw [← e1 i hi]; exact hS.out.2.2.1.c i hi
      clear e1
      go_wp2_with fail
      refine bodyPost_ret (v := .agg (six (first g))) (by simp [results, Tryz.results141, go_sem, cr]) rfl ⟨rfl, ?_⟩
      iterate 16 refine Below.setCell ?_ (by simp) _
      exact hB

end Go.Proofs.YtbcnlggkoidmmaaGreatDoor

namespace Go.Proofs.YtbcnlggkoidmmaaGreatDoor
open Go.RowKit Go.Joins CodeMath

/-- What the program's CodesOf answers. -/
def CodesAnswer : Prop := ∀ (a : Option Addr) (n cap : Nat) (f : Nat → Int) (w : World), Came w a n f → n ≤ 1048576 → (∀ i, i < n → (Lit.int .i64 (f i)).wf = true) →
    (Coded f n → Calls Tryz.prog 106 #[.slice a n cap] w fun e w' => ∃ (a' : Option Addr) (cap' : Nat), e = .returned (.tuple #[.slice a' n cap', .bool true]) ∧ SL w' w.heap.size a' n cap' (codeOf f n) ∧ Below w.heap.size w w') ∧
    (¬ Coded f n → Calls Tryz.prog 106 #[.slice a n cap] w fun e w' => ∃ (a' : Option Addr) (cap' : Nat), e = .returned (.tuple #[.slice a' 0 cap', .bool false]) ∧ Below w.heap.size w w')

end Go.Proofs.YtbcnlggkoidmmaaGreatDoor

namespace Go.Proofs.YtbcnlggkoidmmaaGreatDoor
open Go.RowKit Go.Joins OutMath CodeMath

theorem nextAt_here (f : Nat → Int) (n i m : Nat) (hm : 1 ≤ m) (e : f i = (m : Int)) (s : Nat) : upd (nextAt f n i) m (nextAt f n i m + 1) s = nextAt f n (i + 1) s := by
  unfold upd nextAt
  by_cases h : s = m
  · subst h
    rw [if_pos rfl, if_neg (by omega), if_neg (by omega)]
    show _ = _ + (cntS f s i + (if f i = s then 1 else 0))
    rw [if_pos e]
    omega
  · rw [if_neg h]
    by_cases h0 : s = 0
    · rw [if_pos h0, if_pos h0]
    · rw [if_neg h0, if_neg h0]
      show _ = _ + (cntS f s i + (if f i = s then 1 else 0))
      rw [if_neg (by omega)]
      omega
theorem nextAt_skip (f : Nat → Int) (n i : Nat) (e : f i = 0) (s : Nat) : nextAt f n i s = nextAt f n (i + 1) s := by
  unfold nextAt
  by_cases h0 : s = 0
  · rw [if_pos h0, if_pos h0]
  · rw [if_neg h0, if_neg h0]
    show _ = _ + (cntS f s i + (if f i = s then 1 else 0))
    rw [if_neg (by omega)]
    omega
theorem wrote_here (f : Nat → Int) (n i : Nat) (j : Nat) : upd (wrote f n i) i (codeOf f n i) j = wrote f n (i + 1) j := by
  unfold upd wrote
  by_cases h : j = i
  · rw [if_pos h, if_pos (by omega), h]
  · rw [if_neg h]
    by_cases h2 : j < i
    · rw [if_pos h2, if_pos (by omega)]
    · rw [if_neg h2, if_neg (by omega)]
theorem wrote_skip (f : Nat → Int) (n i : Nat) (e : f i = 0) (j : Nat) : wrote f n i j = wrote f n (i + 1) j := by
  rw [← wrote_here f n i j]
  unfold upd
  by_cases h : j = i
  · rw [if_pos h]
    unfold wrote codeOf
    rw [if_neg (by omega), if_pos (by omega)]
  · rw [if_neg h]

/-- What the ring of CodesOf has at hand. -/
def CodSt (w w' : World) (f : Nat → Int) (n bn gc i : Nat) : Prop :=
  Six w' bn 223 (nextAt f n i) ∧ IOwn w' w.heap.size gc n n (wrote f n i) ∧ bn ≠ gc ∧ w.heap.size ≤ bn ∧ Below w.heap.size w w'

set_option maxHeartbeats 1600000 in
theorem implCodes_good (a : Option Addr) (n cap : Nat) (f : Nat → Int) (w : World) (hC : Came w a n f) (hG : Coded f n) :
    Calls Tryz.prog 106 #[.slice a n cap] w fun e w' => ∃ g : Nat, e = .returned (.tuple #[.slice (some ⟨g, 0, none⟩) n n, .bool true]) ∧ IOwn w' w.heap.size g n n (codeOf f n) ∧ Below w.heap.size w w' := by
  have HC : Hid (Came w a n f) := hC
  have HG : Hid (Coded f n) := hG
  have hm := hG.1
  have hrm := hG.2.2
  have hr0 := (room_bd f n).1
  clear hC hG
  go_enter Tryz.func106, Tryz.ntmps106
  go_wp2_with fail
  refine (count_yes a n cap f _ HC.out hm HG.out.2.1).mono ?_
  rintro e w1 ⟨rfl, hb1⟩
  go_wp2_with fail
  refine (fullTo_any (cs f n) _ (fun s => by have := cs_bd f n s; omega)).mono ?_
  rintro e w2 ⟨rfl, hb2⟩
  rw [full_room f n HG.out.2.1]
  have hS : Six w2 w1.heap.size 224 (cs f n) := by
    show _ = _
    rw [hb2.block _ (by simp)]
    exact heap_alloc_new w1 _
  have hB : Below w.heap.size w w2 := bnext (bal hb1 _) hb2
  have k1 := hS.c
  have hz := hS.lt
  clear hb1 hb2 hS
  have dr : decide (32768 < room f n) = false := by simp; omega
  go_wp2_with fail
  refine (first_any (cs f n) _ (fun s => by have := cs_bd f n s; omega)).mono ?_
  rintro e w3 ⟨rfl, hb3⟩
  have hB3 : Below w.heap.size w w3 := bnext hB hb3
  have hs3 := hB3.size
  have hmk := make_ints (w3.alloc (.cells (six (first (cs f n))) 223)) n (by omega)
  rw [show (w3.alloc (.cells (six (first (cs f n))) 223)).heap.size = w3.heap.size + 1 by simp] at hmk
  have H0 : Hid (CodSt w ((w3.alloc (.cells (six (first (cs f n))) 223)).alloc (.cells (madeCells #[Value.int .i64 0] n) 3)) f n w3.heap.size (w3.heap.size + 1) 0) := by
    refine ⟨?_, ?_, by omega, hs3, bal (bal hB3 _) _⟩
    · refine Six.congr (g := first (cs f n)) ?_ (fun s _ => nextAt_start f n s)
      show _ = _
      rw [Below.heap_alloc _ _ _ (by simp)]
      exact heap_alloc_new w3 _
    · have k := IOwn.made (base := w.heap.size) (w3.alloc (.cells (six (first (cs f n))) 223)) n (by unfold maxLen; omega) (by simp; omega)
      rw [show (w3.alloc (.cells (six (first (cs f n))) 223)).heap.size = w3.heap.size + 1 by simp] at k
      exact k.congr (fun i _ => by unfold wrote; rw [if_neg (by omega)])
  clear k1 hz hB hb3
  generalize hw5 : (w3.alloc (.cells (six (first (cs f n))) 223)).alloc (.cells (madeCells #[Value.int .i64 0] n) 3) = w5 at hmk H0
  clear hw5
  go_wp2_with fail
  go_loopw [29] (fun i w' => ∃ j : Nat, j ≤ n ∧ i = .int .i64 j ∧ Hid (CodSt w w' f n w3.heap.size (w3.heap.size + 1) j)) (fun i _ => n - (intOf i).toNat)
  case atStart => exact ⟨0, Nat.zero_le _, rfl, H0⟩
  case round =>
    clear H0 hmk
    obtain ⟨j, hj, rfl, hS⟩ := hrel
    by_cases hlt : j < n
    · rcases HC.out with h0 | ⟨g, off, rfl, hg, hc⟩
      · omega
      · have c0 : wr.cell? ⟨g, off + j, none⟩ = some (.int .i64 (f j)) := (hS.out.2.2.2.2.cell (p := ⟨g, off + j, none⟩) hg).trans (hc j hlt)
        have hl2 : g < wr.heap.size := Nat.lt_of_lt_of_le hg hS.out.2.2.2.2.size
        clear hc
        obtain ⟨i0, i1⟩ := HG.out.2.1 j hlt
        by_cases hpos : 0 < f j
        · obtain ⟨m, hmj⟩ := Int.eq_ofNat_of_zero_le i0
          have hnb := nextAt_bd f n hm j hj m (by omega)
          have HCD : Hid (nextAt f n j m = codeOf f n j) := nextAt_code f n j m (by omega) hmj
          have c1 := hS.out.1.c m (by omega)
          have f1 := hS.out.1.f m
          have l1 := hS.out.1.lt
          have c2 := hS.out.2.1.cell j hlt
          have f2 := hS.out.2.1.free j hlt
          have l2 := hS.out.2.1.lt
          have HS1 : Hid (CodSt w ((wr.setCell ⟨w3.heap.size + 1, j, none⟩ (.int .i64 (nextAt f n j m))).setCell ⟨w3.heap.size, m, none⟩ (.int .i64 (nextAt f n j m + 1))) f n w3.heap.size (w3.heap.size + 1) (j + 1)) := by
            have s1 : Six (wr.setCell ⟨w3.heap.size + 1, j, none⟩ (.int .i64 (nextAt f n j m))) w3.heap.size 223 (nextAt f n j) := by
              show _ = _
              rw [Below.heap_setCell _ _ _ _ (show w3.heap.size ≠ w3.heap.size + 1 by omega)]
              exact hS.out.1
            have s2 := (hS.out.2.1.set j hlt (nextAt f n j m)).congr (f' := wrote f n (j + 1)) (fun i _ => by rw [HCD.out]; exact wrote_here f n j i)
            refine ⟨(s1.set m _).congr (fun i _ => nextAt_here f n j m (by omega) hmj i), s2.keep (Below.heap_setCell _ _ _ _ (show w3.heap.size + 1 ≠ w3.heap.size by omega)), by omega, hs3, ?_⟩
            exact Below.setCell (p := ⟨w3.heap.size, m, none⟩) (Below.setCell (p := ⟨w3.heap.size + 1, j, none⟩) hS.out.2.2.2.2 (by simp; omega) _) (by simpa using hs3) _
          have hmp : (0 : Int) < (m : Int) := by omega
          have hm15 : (m : Int) ≤ 15 := by omega
          rw [hmj] at c0
          clear hmj hpos i0 i1
          have d : decide ((0 : Int) < (m : Int)) = true := by simpa using hmp
          go_wp2_with fail
          go_roundw
          case rel => exact ⟨j + 1, by omega, by go_num, HS1⟩
          case measure => simp [intOf]; omega
        · have e0 : f j = 0 := by omega
          have HS1 : Hid (CodSt w wr f n w3.heap.size (w3.heap.size + 1) (j + 1)) := ⟨hS.out.1.congr (fun i _ => nextAt_skip f n j e0 i), hS.out.2.1.congr (fun i _ => wrote_skip f n j e0 i), hS.out.2.2⟩
          rw [e0] at c0
          go_wp2_with fail
          go_roundw
          case rel => exact ⟨j + 1, by omega, by go_num, HS1⟩
          case measure => simp [intOf]; omega
    · obtain rfl : j = n := by omega
      go_wp2_with fail
      go_ret2
      exact ⟨w3.heap.size + 1, rfl, hS.out.2.1.congr (fun i hi => by unfold wrote; rw [if_pos hi]), hS.out.2.2.2.2⟩

set_option maxHeartbeats 800000 in
theorem implCodes_bad (a : Option Addr) (n cap : Nat) (f : Nat → Int) (w : World) (hC : Came w a n f) (hn : n ≤ 1048576) (hf : ∀ i, i < n → (Lit.int .i64 (f i)).wf = true) (hb : ¬ Coded f n) :
    Calls Tryz.prog 106 #[.slice a n cap] w fun e w' => e = .returned (.tuple #[.slice none 0 0, .bool false]) ∧ Below w.heap.size w w' := by
  have HC : Hid (Came w a n f) := hC
  have HB : Hid (¬ Coded f n) := hb
  have HF : Hid (∀ i, i < n → (Lit.int .i64 (f i)).wf = true) := hf
  clear hC hb hf
  by_cases hk : n ≤ 288 ∧ OkLens f n
  · obtain ⟨hm, hok⟩ := hk
    have HO : Hid (OkLens f n) := hok
    have hr := (room_bd f n).2 hok
    have hq : 32768 < room f n := by
      by_cases h : 32768 < room f n
      · exact h
      · exact absurd ⟨hm, hok, by omega⟩ HB.out
    clear hok
    go_enter Tryz.func106, Tryz.ntmps106
    go_wp2_with fail
    refine (count_yes a n cap f _ HC.out hm HO.out).mono ?_
    rintro e w1 ⟨rfl, hb1⟩
    go_wp2_with fail
    refine (fullTo_any (cs f n) _ (fun s => by have := cs_bd f n s; omega)).mono ?_
    rintro e w2 ⟨rfl, hb2⟩
    rw [full_room f n HO.out]
    have hB : Below w.heap.size w w2 := bnext (bal hb1 _) hb2
    clear hb1 hb2
    have dr : decide (32768 < room f n) = true := by simpa using hq
    go_wp2_with fail
    go_ret2
    exact ⟨rfl, hB⟩
  · have HK : Hid (¬ (n ≤ 288 ∧ OkLens f n)) := hk
    clear hk
    go_enter Tryz.func106, Tryz.ntmps106
    go_wp2_with fail
    refine (count_no a n cap f _ HC.out hn HF.out HK.out).mono ?_
    rintro e w1 ⟨rfl, hb1⟩
    have hB : Below w.heap.size w (w1.alloc (.cells (six fun _ => 0) 224)) := bal hb1 _
    go_wp2_with fail
    go_ret2
    exact ⟨rfl, hB⟩

theorem codes_answer : CodesAnswer := by
  intro a n cap f w hC hn hf
  refine ⟨fun hG => ?_, fun hG => ?_⟩
  · refine (implCodes_good a n cap f w hC hG).mono ?_
    rintro e w1 ⟨g, rfl, hO, hb⟩
    exact ⟨_, _, rfl, hO.sl, hb⟩
  · refine (implCodes_bad a n cap f w hC hn hf hG).mono ?_
    rintro e w1 ⟨rfl, hb⟩
    exact ⟨_, _, rfl, hb⟩

end Go.Proofs.YtbcnlggkoidmmaaGreatDoor
