/-
  The walks of what a token stands for, and of the program's TokenOk.
  What the program's tellSymbols hands on: a symbol with its extra bits; what stays where nothing is told.
  The walk of the program's tellSymbols over the two functions that it is handed (count).
  What the program's LimitedLengths is to answer.
-/
import Derived.Test.YtbcnlggkoidmmaaGreatDoorRows
import Derived.Test.YtbcnlggkoidmmaaGreatDoorPk01
import Derived.Test.YtbcnlggkoidmmaaGreatDoorPk09
import Derived.Test.YtbcnlggkoidmmaaGreatDoorPk02
import Derived.Test.YtbcnlggkoidmmaaGreatDoorPk07
import Derived.Test.YtbcnlggkoidmmaaGreatDoorPk05
import Derived.WalkKit
import Derived.Below
import Derived.ProofKit
import Derived.WalkLawsBesides
import Derived.Lib.SmallJoins
import Derived.Deep.LoopGhost
namespace Go.Proofs.YtbcnlggkoidmmaaGreatDoor
open Go.RowKit Go.Joins TokMath

/-- What stands for a token. -/
def pieceV (t : Tok) : Value := if TokRight t then (if t.2.1 = 0 then .iface 172 (.int .u8 t.1) else .iface 174 (.agg #[.int .i64 t.2.1, .int .i64 t.2.2])) else .nilIface
theorem piece_byte {x : Int} (h0 : 0 ≤ x) (h1 : x ≤ 255) : pieceV (x, 0, 0) = .iface 172 (.int .u8 x) := by
  unfold pieceV
  rw [if_pos (show TokRight (x, 0, 0) from ⟨⟨h0, h1⟩, rfl⟩), if_pos rfl]
theorem piece_repeat {y z : Int} (hy : 3 ≤ y ∧ y ≤ 258) (hz : 1 ≤ z ∧ z ≤ 32768) : pieceV (0, y, z) = .iface 174 (.agg #[.int .i64 y, .int .i64 z]) := by
  have hn : ¬ y = 0 := by omega
  unfold pieceV
  rw [if_pos (show TokRight (0, y, z) by unfold TokRight; rw [if_neg hn]; exact ⟨rfl, hy, hz⟩), if_neg hn]
theorem piece_none {t : Tok} (h : ¬ TokRight t) : pieceV t = .nilIface := by
  unfold pieceV
  rw [if_neg h]

set_option maxHeartbeats 1600000 in
theorem pieceOf_any (x y z : Int) (w : World) :
    Calls Tryz.prog 103 #[.agg #[.int .i64 x, .int .i64 y, .int .i64 z]] w fun e w' => e = .returned (pieceV (x, y, z)) ∧ Below w.heap.size w w' := by
  have HB := hid_of (bstart w (.cells #[.int .i64 x, .int .i64 y, .int .i64 z] 57))
  by_cases hy : y = 0
  · subst hy
    by_cases hz : z = 0
    · subst hz
      by_cases hx : 0 ≤ x ∧ x ≤ 255
      · have d0 : decide ((0 : Int) ≤ x) = true := decide_eq_true hx.1
        have d1 : decide (x ≤ 255) = true := decide_eq_true hx.2
        have hx0 := hx.1
        have hx1 := hx.2
        rw [piece_byte hx.1 hx.2]
        clear hx
        go_enter Tryz.func103, Tryz.ntmps103
        go_wp2_with fail
        go_ret
        exact ⟨rfl, HB.out⟩
      · have hn : ¬ TokRight (x, 0, 0) := fun h => hx h.1
        have d2 : (x == 0) = false := by
          simp
          omega
        rw [piece_none hn]
        by_cases hx0 : 0 ≤ x
        · have d0 : decide ((0 : Int) ≤ x) = true := decide_eq_true hx0
          have d1 : decide (x ≤ 255) = false := decide_eq_false (by omega)
          go_enter Tryz.func103, Tryz.ntmps103
          go_wp2_with fail
          go_ret
          exact ⟨rfl, HB.out⟩
        · have d0 : decide ((0 : Int) ≤ x) = false := decide_eq_false hx0
          go_enter Tryz.func103, Tryz.ntmps103
          go_wp2_with fail
          go_ret
          exact ⟨rfl, HB.out⟩
    · have hn : ¬ TokRight (x, 0, z) := fun h => hz h.2
      have dz : (z == 0) = false := by
        simp
        omega
      rw [piece_none hn]
      by_cases hx : x = 0
      · subst hx
        have dn := fun w => isLength_no 0 w (by omega)
        go_enter Tryz.func103, Tryz.ntmps103
        go_wp2_with fail
        refine (dn _).mono ?_
        rintro e w1 ⟨rfl, rfl⟩
        go_wp2_with fail
        go_ret
        exact ⟨rfl, HB.out⟩
      · have dx : (x == 0) = false := by
          simp
          omega
        go_enter Tryz.func103, Tryz.ntmps103
        go_wp2_with fail
        go_ret
        exact ⟨rfl, HB.out⟩
  · have dy : (y == 0) = false := by
      simp
      omega
    by_cases hx : x = 0
    · subst hx
      by_cases h1 : 3 ≤ y ∧ y ≤ 258
      · have dl := fun w => isLength_yes y w h1
        by_cases h2 : 1 ≤ z ∧ z ≤ 32768
        · have dd := fun w => isDist_yes z w h2
          rw [piece_repeat h1 h2]
          go_enter Tryz.func103, Tryz.ntmps103
          go_wp2_with fail
          refine (dl _).mono ?_
          rintro e w1 ⟨rfl, rfl⟩
          go_wp2_with fail
          refine (dd _).mono ?_
          rintro e w2 ⟨rfl, rfl⟩
          go_wp2_with fail
          go_ret
          exact ⟨rfl, HB.out⟩
        · have dd := fun w => isDist_no z w h2
          have hn : ¬ TokRight (0, y, z) := fun h => by
            unfold TokRight at h
            rw [if_neg hy] at h
            exact h2 h.2.2
          rw [piece_none hn]
          go_enter Tryz.func103, Tryz.ntmps103
          go_wp2_with fail
          refine (dl _).mono ?_
          rintro e w1 ⟨rfl, rfl⟩
          go_wp2_with fail
          refine (dd _).mono ?_
          rintro e w2 ⟨rfl, rfl⟩
          go_wp2_with fail
          go_ret
          exact ⟨rfl, HB.out⟩
      · have dl := fun w => isLength_no y w h1
        have hn : ¬ TokRight (0, y, z) := fun h => by
          unfold TokRight at h
          rw [if_neg hy] at h
          exact h1 h.2.1
        rw [piece_none hn]
        go_enter Tryz.func103, Tryz.ntmps103
        go_wp2_with fail
        refine (dl _).mono ?_
        rintro e w1 ⟨rfl, rfl⟩
        go_wp2_with fail
        go_ret
        exact ⟨rfl, HB.out⟩
    · have dx : (x == 0) = false := by
        simp
        omega
      have hn : ¬ TokRight (x, y, z) := fun h => by
        unfold TokRight at h
        rw [if_neg hy] at h
        exact hx h.1
      rw [piece_none hn]
      go_enter Tryz.func103, Tryz.ntmps103
      go_wp2_with fail
      go_ret
      exact ⟨rfl, HB.out⟩

end Go.Proofs.YtbcnlggkoidmmaaGreatDoor

namespace Go.Proofs.YtbcnlggkoidmmaaGreatDoor
open Go.RowKit Go.Joins TokMath StepMath TellMath

theorem wf_small (x : Int) (h0 : -9223372036854775808 ≤ x) (h1 : x ≤ 9223372036854775807) : (Lit.int .i64 x).wf = true := by
  show (decide (IntKind.i64.min ≤ x) && decide (x ≤ IntKind.i64.max)) = true
  rw [show IntKind.i64.min = -9223372036854775808 from rfl, show IntKind.i64.max = 9223372036854775807 from rfl, decide_eq_true h0, decide_eq_true h1]
  rfl
def codV (s : Cod) : Value := .agg #[.int .i64 s.1, .int .i64 s.2.1, .int .i64 s.2.2]

set_option maxHeartbeats 400000 in
theorem newCoded_any (x y z : Int) (w : World) :
    Calls Tryz.prog 79 #[.int .i64 x, .int .i64 y, .int .i64 z] w fun e w' => e = .returned (codV (x, y, z)) ∧ Below w.heap.size w w' := by
  go_enter Tryz.func79, Tryz.ntmps79
  go_wp2_with fail
  refine bodyPost_ret (v := codV (x, y, z)) ?_ rfl ⟨rfl, ?_⟩
  · simp [results, Tryz.results79, go_sem, codV]
  · exact bstart _ _

/-- What is kept where neither is called. -/
structure Stays (w0 : World) (I : World → List (Bool × Cod) → Prop) (T : World → Nat → Prop) : Prop where
  called : ∀ {w w' S}, I w S → Below w.heap.size w w' → I w' S ∧ ∀ g, T w' g → T w g
  lt : ∀ {w S g}, I w S → T w g → g < w.heap.size
  below : ∀ {w S}, I w S → Below w0.heap.size w0 w

end Go.Proofs.YtbcnlggkoidmmaaGreatDoor

namespace Go.Proofs.YtbcnlggkoidmmaaGreatDoor
open Go.RowKit Go.Joins TokMath StepMath TellMath

set_option maxRecDepth 100000 in
set_option maxHeartbeats 3200000 in
theorem tell_count (p1 p2 : Nat) (Gd : Bool → Cod → Prop) (I : World → List (Bool × Cod) → Prop) (T : World → Nat → Prop) (w0 w : World) (a : Option Addr) (c : Nat) (L : List Tok)
    (hC : TCame w0 a L.length (fun j => L.getD j (0, 0, 0))) (hL : L.length ≤ 12000) (hS : Stays w0 I T) 
    (h1 : ∀ (w : World) (S : List (Bool × Cod)) (s : Cod), I w S → Gd false s → S.length ≤ 24001 → Calls Tryz.prog 71 #[codV s, .pointer (some ⟨p1, 0, none⟩)] w fun e w' => e = .returned (.tuple #[]) ∧ I w' (S ++ [(false, s)]) ∧ w.heap.size ≤ w'.heap.size ∧ ∀ g, g < w.heap.size → ¬ T w g → w'.heap[g]? = w.heap[g]?)
    (h2 : ∀ (w : World) (S : List (Bool × Cod)) (s : Cod), I w S → Gd true s → S.length ≤ 24001 → Calls Tryz.prog 72 #[codV s, .pointer (some ⟨p2, 0, none⟩)] w fun e w' => e = .returned (.tuple #[]) ∧ I w' (S ++ [(true, s)]) ∧ w.heap.size ≤ w'.heap.size ∧ ∀ g, g < w.heap.size → ¬ T w g → w'.heap[g]? = w.heap[g]?)
    (hG : ∀ t ∈ L, TokRight t → ∀ x ∈ symsT t, Gd x.1 x.2) (hE : Gd false (256, 0, 0)) (hI : I w []) :
    Calls Tryz.prog 69 #[.slice a L.length c, .func (.func 71) #[] #[.pointer (some ⟨p1, 0, none⟩)], .func (.func 72) #[] #[.pointer (some ⟨p2, 0, none⟩)]] w fun e w' =>
      ((∀ t ∈ L, TokRight t) → e = .returned (.bool true) ∧ I w' (symsL L ++ [(false, (256, 0, 0))])) ∧ (¬ (∀ t ∈ L, TokRight t) → e = .returned (.bool false) ∧ ∃ S, I w' S) := by
  have HC := hid_of hC
  have HS := hid_of hS
  have H1 := hid_of h1
  have H2 := hid_of h2
  have HG := hid_of hG
  have HE := hid_of hE
  have HI := hid_of hI
  clear hC hS h1 h2 hG hE hI
  go_enter Tryz.func69, Tryz.ntmps69
  go_wp2_with fail
  go_loopg [14] (L.length + 1) (fun gk i w' => ∃ (j : Nat), j ≤ L.length ∧ L.length - j ≤ gk ∧ i = .int .i64 j ∧ Hid (I w' (symsL (L.take j)) ∧ ∀ t ∈ L.take j, TokRight t))
  case atStart => exact ⟨0, Nat.zero_le _, by omega, rfl, HI.out, fun t ht => by cases ht⟩
  case round =>
    obtain ⟨j, hj, hgk, rfl, hSt⟩ := hrel
    by_cases hlt : j < L.length
    · have dl : decide ((j : Int) < (L.length : Int)) = true := decide_eq_true (by omega)
      rcases HC.out.called (HS.out.below hSt.out.1) with q | ⟨g, off, rfl, hg, hc⟩
      · omega
      obtain ⟨f0, f1, f2⟩ := hc j hlt
      simp only [] at f0 f1 f2
      have hmem : L.getD j (0, 0, 0) ∈ L := by rw [List.getD_eq_getElem?_getD, List.getElem?_eq_getElem hlt]; exact List.getElem_mem hlt
      have HMEM := hid_of hmem
      have HSN := hid_of (symsL_snoc hlt)
      have HTK := hid_of (show L.take (j + 1) = L.take j ++ [L.getD j (0, 0, 0)] by rw [List.take_add_one, List.getElem?_eq_getElem hlt, List.getD_eq_getElem?_getD, List.getElem?_eq_getElem hlt]; rfl)
      obtain ⟨⟨x, y, z⟩, hr⟩ : ∃ r, r = L.getD j (0, 0, 0) := ⟨_, rfl⟩
      rw [← hr] at f0 f1 f2 HSN HTK HMEM
      clear hc hr hmem
      by_cases hT : TokRight (x, y, z)
      · by_cases hy : y = 0
        · subst hy
          obtain ⟨⟨hx0, hx1⟩, hz⟩ : (0 ≤ x ∧ x ≤ 255) ∧ z = 0 := by unfold TokRight at hT; rw [if_pos rfl] at hT; exact hT
          subst hz
          have t1 := as_literal
          have hp := fun w => pieceOf_any x 0 0 w
          rw [piece_byte hx0 hx1] at hp
          have hw : wrap64 x = x := by unfold wrap64; omega
          go_wp2_with fail
          refine (hp _).mono ?_
          rintro e w1 ⟨rfl, hB1⟩
          go_wp2_with fail
          refine (newCoded_any _ _ _ _).mono ?_
          rintro e w2 ⟨rfl, hB2⟩
          have HI2 := hid_of (HS.out.called hSt.out.1 (bnext (bnext (bstart wr _) hB1) hB2)).1
          have hlen : (symsL (L.take j)).length ≤ 24001 := by have := symsL_length (L.take j); rw [List.length_take] at this; omega
          have hgd : Gd false (x, 0, 0) := HG.out _ HMEM.out hT (false, (x, 0, 0)) (by rw [symsT_byte]; exact List.mem_singleton.mpr rfl)
          clear hB1 hB2
          go_wp2_with fail
          refine (H1.out w2 _ (x, 0, 0) HI2.out hgd hlen).mono ?_
          rintro e w3 ⟨rfl, hI3, _, _⟩
          have HN : Hid (I w3 (symsL (L.take (j + 1))) ∧ ∀ t ∈ L.take (j + 1), TokRight t) := by
            refine ⟨by rw [HSN.out, symsT_byte]; exact hI3, fun t ht => ?_⟩
            rw [HTK.out] at ht
            rcases List.mem_append.mp ht with ht | ht
            · exact hSt.out.2 t ht
            · rw [List.mem_singleton.mp ht]; exact hT
          clear hI3
          go_wp2_with fail
          go_roundg (L.length - (j + 1))
          case measure => omega
          case rel => exact ⟨j + 1, by omega, Nat.le_refl _, by go_num, HN⟩
        · obtain ⟨hx, hy2, hz2⟩ : x = 0 ∧ (3 ≤ y ∧ y ≤ 258) ∧ (1 ≤ z ∧ z ≤ 32768) := by unfold TokRight at hT; rw [if_neg hy] at hT; exact hT
          subst hx
          have t1 := no_literal
          have t2 := as_repeat
          have hp := fun w => pieceOf_any 0 y z w
          rw [piece_repeat hy2 hz2] at hp
          have hl := fun w => lengthCode_answer y w (wf_small y (by omega) (by omega))
          have hd := fun w => distCode_answer z w (wf_small z (by omega) (by omega))
          have hg1 : Gd false (LengthCodeOf y) := HG.out _ HMEM.out hT (false, LengthCodeOf y) (by rw [symsT_rep _ _ hy]; exact List.mem_cons_self ..)
          have hg2 : Gd true (DistCodeOf z) := HG.out _ HMEM.out hT (true, DistCodeOf z) (by rw [symsT_rep _ _ hy]; exact List.mem_cons_of_mem _ (List.mem_cons_self ..))
          have hsn : symsL (L.take (j + 1)) = symsL (L.take j) ++ [(false, LengthCodeOf y)] ++ [(true, DistCodeOf z)] := by rw [HSN.out, symsT_rep _ _ hy, List.append_assoc]; rfl
          obtain ⟨⟨l1, l2, l3⟩, hlc⟩ : ∃ r, r = LengthCodeOf y := ⟨_, rfl⟩
          obtain ⟨⟨d1, d2, d3⟩, hdc⟩ : ∃ r, r = DistCodeOf z := ⟨_, rfl⟩
          rw [← hlc] at hl hg1 hsn
          rw [← hdc] at hd hg2 hsn
          simp only [] at hl hd
          have HSN2 := hid_of hsn
          have hlen : (symsL (L.take j)).length ≤ 24000 := by have := symsL_length (L.take j); rw [List.length_take] at this; omega
          clear hlc hdc hsn HSN
          go_wp2_with fail
          refine (hp _).mono ?_
          rintro e w1 ⟨rfl, hB1⟩
          have HI1 := hid_of (HS.out.called hSt.out.1 (bnext (bstart wr _) hB1)).1
          clear hB1 hp
          go_wp2_with fail
          refine (hl _).mono ?_
          rintro e w2 ⟨rfl, hB2⟩
          clear hl
          go_wp2_with fail
          refine (newCoded_any _ _ _ _).mono ?_
          rintro e w3 ⟨rfl, hB3⟩
          have hr3 : w3.heap[w1.heap.size]? = some (.cells #[.int .i64 y, .int .i64 z] 174 (0, 0)) := by
            have h1 : w2.heap[w1.heap.size]? = _ := (hB2.block _ (by simp)).trans (heap_alloc_new w1 _)
            exact (hB3.block _ (block_lt h1)).trans h1
          have hb13 := bnext (bnext (bstart w1 (.cells #[.int .i64 y, .int .i64 z] 174)) hB2) hB3
          obtain ⟨hI3, hT3⟩ := HS.out.called HI1.out hb13
          have hnt : ¬ T w3 w1.heap.size := fun h => by have := HS.out.lt HI1.out (hT3 _ h); omega
          have HI3 := hid_of hI3
          have HR3 := hid_of hr3
          have hl3 := block_lt hr3
          clear hB2 hB3 hI3 hT3 hr3 hb13
          go_wp2_with fail
          refine (H1.out w3 _ (l1, l2, l3) HI3.out hg1 (by omega)).mono ?_
          rintro e w4 ⟨rfl, hI4, hsz4, hk4⟩
          have hr4 : w4.heap[w1.heap.size]? = some (.cells #[.int .i64 y, .int .i64 z] 174 (0, 0)) := (hk4 _ hl3 hnt).trans HR3.out
          have c0 : w4.cell? ⟨w1.heap.size, 0, none⟩ = some (.int .i64 y) := (cell_of_block hr4 0).trans rfl
          have c1 : w4.cell? ⟨w1.heap.size, 1, none⟩ = some (.int .i64 z) := (cell_of_block hr4 1).trans rfl
          have HI4 := hid_of hI4
          clear hI4 hsz4 hk4 hr4 HR3 HI3 HI1
          go_wp2_with fail
          refine (hd _).mono ?_
          rintro e w5 ⟨rfl, hB5⟩
          clear hd
          go_wp2_with fail
          refine (newCoded_any _ _ _ _).mono ?_
          rintro e w6 ⟨rfl, hB6⟩
          have HI6 := hid_of (HS.out.called HI4.out (bnext hB5 hB6)).1
          clear hB5 hB6 HI4
          go_wp2_with fail
          refine (H2.out w6 _ (d1, d2, d3) HI6.out hg2 (by rw [List.length_append, List.length_singleton]; omega)).mono ?_
          rintro e w7 ⟨rfl, hI7, _, _⟩
          have HN : Hid (I w7 (symsL (L.take (j + 1))) ∧ ∀ t ∈ L.take (j + 1), TokRight t) := by
            refine ⟨by rw [HSN2.out]; exact hI7, fun t ht => ?_⟩
            rw [HTK.out] at ht
            rcases List.mem_append.mp ht with ht | ht
            · exact hSt.out.2 t ht
            · rw [List.mem_singleton.mp ht]; exact hT
          clear hI7
          go_wp2_with fail
          go_roundg (L.length - (j + 1))
          case measure => omega
          case rel => exact ⟨j + 1, by omega, Nat.le_refl _, by go_num, HN⟩
      · have t1 := nil_literal
        have t2 := nil_repeat
        have hp := fun w => pieceOf_any x y z w
        rw [piece_none hT] at hp
        go_wp2_with fail
        refine (hp _).mono ?_
        rintro e w1 ⟨rfl, hB1⟩
        have HI1 := hid_of (HS.out.called hSt.out.1 (bnext (bstart wr _) hB1)).1
        clear hB1 hp
        go_wp2_with fail
        go_ret
        exact ⟨fun h => absurd (h _ HMEM.out) hT, fun _ => ⟨rfl, _, by first | exact HI1.out | exact (HS.out.called HI1.out (bstart _ _)).1⟩⟩
    · obtain rfl : L.length = j := by omega
      have dl : decide ((L.length : Int) < (L.length : Int)) = false := decide_eq_false (by omega)
      rw [List.take_length] at hSt
      have hlen := symsL_length L
      go_wp2_with fail
      refine (newCoded_any _ _ _ _).mono ?_
      rintro e w1 ⟨rfl, hB1⟩
      have HI1 := hid_of (HS.out.called hSt.out.1 hB1).1
      clear hB1
      go_wp2_with fail
      refine (H1.out w1 _ (256, 0, 0) HI1.out HE.out (by omega)).mono ?_
      rintro e w2 ⟨rfl, hI2, _, _⟩
      have HI2 := hid_of hI2
      clear hI2
      go_wp2_with fail
      go_ret
      exact ⟨fun _ => ⟨rfl, HI2.out⟩, fun h => absurd hSt.out.2 h⟩
end Go.Proofs.YtbcnlggkoidmmaaGreatDoor

namespace Go.Proofs.YtbcnlggkoidmmaaGreatDoor
open Go.RowKit Go.Joins PackageMath

def LimitAnswer : Prop := ∀ (a : Option Addr) (n cap : Nat) (f : Nat → Int) (z : Int) (w : World), Came w a n f → n ≤ 1048576 → (∀ i, i < n → (Lit.int .i64 (f i)).wf = true) → (Lit.int .i64 z).wf = true →
    (LimitRight f n z → Calls Tryz.prog 73 #[.slice a n cap, .int .i64 z] w fun e w' => ∃ (a' : Option Addr) (cap' : Nat), e = .returned (.tuple #[.slice a' n cap', .bool true]) ∧ SL w' w.heap.size a' n cap' (limLen f n z) ∧ Below w.heap.size w w') ∧
    (¬ LimitRight f n z → Calls Tryz.prog 73 #[.slice a n cap, .int .i64 z] w fun e w' => ∃ (a' : Option Addr) (cap' : Nat), e = .returned (.tuple #[.slice a' 0 cap', .bool false]) ∧ Below w.heap.size w w')

end Go.Proofs.YtbcnlggkoidmmaaGreatDoor
