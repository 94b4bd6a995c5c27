/-
  The walk of the program's first codes.
  The walk of the program's newCodeBook.
  The walk of the program's hasCode.
-/
import Derived.Test.YtbcnlggkoidmmaaGreatDoorRows
import Derived.Test.YtbcnlggkoidmmaaGreatDoorQk01
import Derived.Test.YtbcnlggkoidmmaaGreatDoorQk04
import Derived.Test.YtbcnlggkoidmmaaGreatDoorQk05
import Derived.Test.YtbcnlggkoidmmaaGreatDoorQk14
import Derived.Test.YtbcnlggkoidmmaaGreatDoorQk18
import Derived.Test.YtbcnlggkoidmmaaGreatDoorQk15
import Derived.Test.YtbcnlggkoidmmaaGreatDoorQk07
import Derived.WalkKit
import Derived.ProofKit
import Derived.WalkLawsBesides
import Derived.RegionTactic
import Derived.BigRegion
import Derived.Deep.RegionWith
import Derived.Lib.SmallJoins
import Derived.Deep.LoopGhost
import Derived.Deep.RegionLaw
import Derived.Deep.AppendLies
namespace Go.Proofs.YtbcnlggkoidmmaaGreatDoor
open Go.RowKit Go.Joins OutMath CodeMath

theorem firstTo_here (g : Nat → Int) (t : Nat) (s : Nat) : upd (firstTo g t) t (first g t) s = firstTo g (t + 1) s := by
  unfold upd firstTo
  by_cases h : s = t
  · rw [if_pos h, if_pos (by omega), h]
  · rw [if_neg h]
    by_cases h2 : s < t
    · rw [if_pos h2, if_pos (by omega)]
    · rw [if_neg h2, if_neg (by omega)]

/-- What the ring of firstCodes has at hand: the counts, the answer's place, and the codes so far. -/
def FirSt (w w' : World) (g : Nat → Int) (t : Nat) : Prop :=
  Six w' w.heap.size 224 g ∧ Six w' (w.heap.size + 1) 223 (fun _ => 0) ∧ Six w' (w.heap.size + 2) 223 (firstTo g t) ∧ Below w.heap.size w w'
theorem fir_start (w : World) (g : Nat → Int) : FirSt w (((w.alloc (.cells (six g) 224)).alloc (.cells (six fun _ => 0) 223)).alloc (.cells (six fun _ => 0) 223)) g 2 := by
  have z1 : (w.alloc (.cells (six g) 224)).heap.size = w.heap.size + 1 := by simp
  have z2 : ((w.alloc (.cells (six g) 224)).alloc (.cells (six fun _ => 0) 223)).heap.size = w.heap.size + 2 := by simp
  refine ⟨?_, ?_, ?_, bal (bal (bstart _ _) _) _⟩
  · show _ = _
    rw [Below.heap_alloc _ _ _ (by simp; omega), Below.heap_alloc _ _ _ (by simp)]
    exact heap_alloc_new w _
  · show _ = _
    rw [Below.heap_alloc _ _ _ (by simp)]
    have k := heap_alloc_new (w.alloc (.cells (six g) 224)) (.cells (six fun _ => 0) 223)
    rw [z1] at k
    exact k
  · refine Six.congr (g := fun _ => 0) ?_ (fun s _ => (firstTo_start g s).symm)
    have k := heap_alloc_new ((w.alloc (.cells (six g) 224)).alloc (.cells (six fun _ => 0) 223)) (.cells (six fun _ => 0) 223)
    rw [z2] at k
    exact k

set_option maxHeartbeats 1600000 in
theorem first_any (g : Nat → Int) (w : World) (hg : ∀ s, 0 ≤ g s ∧ g s ≤ 288) :
    Calls Tryz.prog 141 #[.agg (six g)] w fun e w' => e = .returned (.agg (six (first g))) ∧ Below w.heap.size w w' := by
  have HG : Hid (∀ s, 0 ≤ g s ∧ g s ≤ 288) := hg
  have H0 := hid_of (fir_start w g)
  clear hg
  go_enter Tryz.func141, Tryz.ntmps141
  go_wp2_with fail
  go_loopw [4] (fun i w' => ∃ t : Nat, 2 ≤ t ∧ t ≤ 16 ∧ i = .int .i64 t ∧ Hid (FirSt w w' g t)) (fun i _ => 16 - (intOf i).toNat)
  case atStart => exact ⟨2, by omega, by omega, rfl, H0⟩
  case round =>
    clear H0
    obtain ⟨t, ht1, ht2, rfl, hS⟩ := hrel
    by_cases hlt : t ≤ 15
    · obtain ⟨u, rfl⟩ : ∃ u, t = u + 1 := ⟨t - 1, by omega⟩
      have c0 := hS.out.1.c u (by omega)
      have c1 := hS.out.2.2.1.c u (by omega)
      have c2 := hS.out.2.2.1.c (u + 1) (by omega)
      have f2 := hS.out.2.2.1.f (u + 1)
      have l2 := hS.out.2.2.1.lt
      have e1 : firstTo g (u + 1) u = first g u := by unfold firstTo; rw [if_pos (by omega)]
      have e2 : firstTo g (u + 1) (u + 1) = 0 := by unfold firstTo; rw [if_neg (by omega)]
      rw [e1] at c1
      rw [e2] at c2
      have hb := first_lt g HG.out u (by omega)
      have hgb := HG.out u
      have HE : Hid (first g (u + 1) = 2 * (first g u + g u)) := first_step g (u + 1) (by omega)
      clear e1 e2
      go_wp2_with fail
      go_region
      all_goals
        have HS1 : Hid (FirSt w ((wr.setCell ⟨w.heap.size + 1 + 1, u + 1, none⟩ (.int .i64 (2 * (first g u + g u)))).drew) g (u + 1 + 1)) := by
          refine ⟨?_, ?_, ?_, (Below.setCell (p := ⟨w.heap.size + 2, u + 1, none⟩) hS.out.2.2.2 (by simp) _).drew⟩
          · show (wr.setCell ⟨w.heap.size + 2, u + 1, none⟩ _).heap[_]? = _
            rw [Below.heap_setCell _ _ _ _ (show w.heap.size ≠ w.heap.size + 2 by omega)]
            exact hS.out.1
          · show (wr.setCell ⟨w.heap.size + 2, u + 1, none⟩ _).heap[_]? = _
            rw [Below.heap_setCell _ _ _ _ (show w.heap.size + 1 ≠ w.heap.size + 2 by omega)]
            exact hS.out.2.1
          · have k := (hS.out.2.2.1.set (u + 1) (2 * (first g u + g u))).congr (g' := firstTo g (u + 1 + 1)) (fun i _ => by rw [← HE.out]; exact firstTo_here g (u + 1) i)
            exact k
        go_wp2_with fail
        go_roundw
        case rel => exact ⟨u + 1 + 1, by omega, by omega, by go_num, HS1⟩
        case measure => simp [intOf]; omega
    · obtain rfl : t = 16 := by omega
      have cr := hS.out.2.1.c
      have fr := hS.out.2.1.f
      have lr := hS.out.2.1.lt
      have hB := hS.out.2.2.2
      have e1 : ∀ i, i < 16 → firstTo g 16 i = first g i := fun i hi => by unfold firstTo; rw [if_pos hi]
      have cc : ∀ i, i < 16 → wr.cell? ⟨w.heap.size + 1 + 1, i, none⟩ = some (.int .i64 (first g i)) := fun i hi => by rw [← e1 i hi]; exact hS.out.2.2.1.c i hi
      clear e1
      go_wp2_with fail
      refine bodyPost_ret (v := .agg (six (first g))) (by simp [results, Tryz.results141, go_sem, cr]) rfl ⟨rfl, ?_⟩
      iterate 16 refine Below.setCell ?_ (by simp) _
      exact hB

end Go.Proofs.YtbcnlggkoidmmaaGreatDoor

namespace Go.Proofs.YtbcnlggkoidmmaaGreatDoor
open Go.RowKit Go.Joins OutMath CodeMath TakeMath HitMath WayMath BookMath InfMath

def updV (V : Nat → Value) (t : Nat) (v : Value) : Nat → Value := fun j => if j = t then v else V j
/-- The book when the first i symbols are in it. -/
def BkI (w0 w : World) (bk : Nat) (V : Nat → Value) (f : Nat → Int) (n i : Nat) : Prop :=
  (w0.heap.size ≤ bk ∧ bk < w.heap.size ∧ ∀ q, w.frozen? ⟨bk, q, none⟩ = false) ∧
  (∀ t, t < 16 → w.cell? ⟨bk, t, none⟩ = some (V t) ∧ NumRow w w0.heap.size (V t) (symsTo f t i) ∧ (V t).ownBlock ≠ some bk) ∧
  (∀ t t', t < 16 → t' < 16 → t ≠ t' → (V t).ownBlock = none ∨ (V t).ownBlock ≠ (V t').ownBlock) ∧
  (∀ t, t < 16 → w.cell? ⟨bk, 16 + t, none⟩ = some (.int .i64 (first (cs f n) t))) ∧ w.cell? ⟨bk, 32, none⟩ = some (.int .i64 (nx f n 15)) ∧ Below w0.heap.size w0 w
section
variable {w0 w w7 : World} {bk : Nat} {V : Nat → Value} {f : Nat → Int} {n i : Nat}
theorem BkI.draw (h : BkI w0 w bk V f n i) (m : Nat) : BkI w0 (w.drewN m) bk V f n i := ⟨h.1, h.2.1, h.2.2.1, h.2.2.2.1, h.2.2.2.2.1, ⟨h.2.2.2.2.2.os, h.2.2.2.2.2.tape, h.2.2.2.2.2.output, h.2.2.2.2.2.size, h.2.2.2.2.2.block⟩⟩
theorem BkI.skip (h : BkI w0 w bk V f n i) (hf : f i = 0) : BkI w0 w bk V f n (i + 1) := by
  obtain ⟨h1, h2, h3⟩ := h
  refine ⟨h1, fun t ht => ?_, h3⟩
  obtain ⟨q1, q2, q3⟩ := h2 t ht
  rw [symsTo_skip (by omega)]
  exact ⟨q1, q2, q3⟩
theorem BkI.put {t g cap : Nat} {o : Obj} (h : BkI w0 w bk V f n i) (ht : t < 16) (hf : f i = (t : Int)) (hp : 0 < f i)
    (y1 : w7.ownsRow w0.heap.size 3 1 (.slice (some ⟨g, 0, none⟩) ((symsTo f t i).length + 1) cap) ((symsTo f t i).length + 1) (ivals (symsTo f t i) ++ [.int .i64 (i : Int)])) (y2 : (w.alloc o).grownBy w7 (V t).ownBlock) (y3 : (V t).ownBlock = some g ∨ g = w.heap.size + 1) :
    (w7.cell? ⟨bk, t, none⟩ = some (V t) ∧ w7.frozen? ⟨bk, t, none⟩ = false ∧ bk < w7.heap.size) ∧ BkI w0 (w7.setCell ⟨bk, t, none⟩ (.slice (some ⟨g, 0, none⟩) ((symsTo f t i).length + 1) cap)) bk (updV V t (.slice (some ⟨g, 0, none⟩) ((symsTo f t i).length + 1) cap)) f n (i + 1) := by
  obtain ⟨⟨h1, h2, h3⟩, h4, h5, h6, h7, h8⟩ := h
  have hsz : w.heap.size + 1 = (w.alloc o).heap.size := (World.size_alloc _ _).symm
  obtain ⟨c1, c2, c3⟩ := h4 t ht
  have hblk : w7.heap[bk]? = w.heap[bk]? := (y2.block bk (by omega) (fun e => c3 e.symm)).trans ((bstart w o).block bk h2)
  have hcell : ∀ q, w7.cell? ⟨bk, q, none⟩ = w.cell? ⟨bk, q, none⟩ := fun q => World.cell?_of_block (a := ⟨bk, q, none⟩) hblk
  have hfz : ∀ q, w7.frozen? ⟨bk, q, none⟩ = false := fun q => (World.frozen?_of_block (a := ⟨bk, q, none⟩) hblk).trans (h3 q)
  have hlt7 : bk < w7.heap.size := by have := y2.size; omega
  have hgl := World.ownsRow.lt y1 g rfl
  have hgb : g ≠ bk := by
    rcases y3 with q | q
    · intro e
      exact c3 (by rw [q, e])
    · omega
  have hgs := grown_cell w7 bk t (.slice (some ⟨g, 0, none⟩) ((symsTo f t i).length + 1) cap)
  have hoth : ∀ q, q ≠ t → (w7.setCell ⟨bk, t, none⟩ (.slice (some ⟨g, 0, none⟩) ((symsTo f t i).length + 1) cap)).cell? ⟨bk, q, none⟩ = w.cell? ⟨bk, q, none⟩ := fun q hq => by
    rw [World.cell?_setCell_other _ _ _ _ (by intro e; cases e; exact hq rfl)]
    exact hcell q
  have hnew : ∀ t', t' < 16 → t' ≠ t → (V t').ownBlock ≠ some g := fun t' h' hne e => by
    rcases y3 with q | q
    · rcases h5 t' t h' ht hne with q1 | q1
      · rw [q1] at e
        cases e
      · exact q1 (by rw [e, q])
    · have := (World.ownsRow.lt (h4 t' h').2.1 g e).2
      omega
  refine ⟨⟨(hcell t).trans c1, hfz t, hlt7⟩, ⟨h1, by have := hgs.size; omega, fun q => ?_⟩, fun t' h' => ?_, fun t1 t2 k1 k2 hne => ?_, fun t' h' => ?_, ?_, ?_⟩
  · have := hfz q
    simpa using this
  · by_cases e : t' = t
    · subst e
      unfold updV
      rw [if_pos rfl]
      refine ⟨?_, ?_, by simpa [Value.ownBlock] using hgb⟩
      · exact World.cell?_setCell_same _ _ _ (by rw [hcell, c1])
      · have e1 : NumRow w7 w0.heap.size (.slice (some ⟨g, 0, none⟩) ((symsTo f t' i).length + 1) cap) (symsTo f t' (i + 1)) := by
          rw [symsTo_here hp hf]
          unfold NumRow
          rw [List.length_append, ivals_app]
          exact y1
        exact World.ownsRow.kept e1 hgs (.inr (by simpa [Value.ownBlock] using hgb))
    · unfold updV
      rw [if_neg e, hoth t' e, symsTo_skip (fun q => e (by omega))]
      obtain ⟨q1, q2, q3⟩ := h4 t' h'
      refine ⟨q1, World.ownsRow.kept (World.ownsRow.kept (World.ownsRow.alloc q2 o) y2 (h5 t' t h' ht e)) hgs (.inr q3), q3⟩
  · unfold updV
    by_cases e1 : t1 = t
    · rw [if_pos e1, if_neg (by omega)]
      refine .inr (fun e => hnew t2 k2 (by omega) e.symm)
    · rw [if_neg e1]
      by_cases e2 : t2 = t
      · rw [if_pos e2]
        exact .inr (hnew t1 k1 e1)
      · rw [if_neg e2]
        exact h5 t1 t2 k1 k2 hne
  · rw [hoth (16 + t') (by omega)]
    exact h6 t' h'
  · rw [hoth 32 (by omega)]
    exact h7
  · exact ((h8.alloc h8.size o).grown y2 (Nat.le_trans h8.size (by omega)) (fun k e => (World.ownsRow.lt c2 k e).1)).setCell (p := ⟨bk, t, none⟩) h1 _
/-- The whole book. -/
theorem BkI.book (h : BkI w0 w bk V f n n) : Book w w0.heap.size w.heap.size bk V f n :=
  ⟨h.1.1, h.1.2.1, Nat.le_refl _, fun t ht => ⟨(h.2.1 t ht).1, (h.2.1 t ht).2.1, fun k e => (World.ownsRow.lt (h.2.1 t ht).2.1 k e).2⟩, h.2.2.2.1, h.2.2.2.2.1⟩
end
set_option maxRecDepth 100000 in
theorem bki_start (w wB : World) (f : Nat → Int) (n : Nat) (h : Below w.heap.size w wB) : BkI w (wB.alloc (.cells #[.slice none 0 0, .slice none 0 0, .slice none 0 0, .slice none 0 0, .slice none 0 0, .slice none 0 0, .slice none 0 0, .slice none 0 0, .slice none 0 0, .slice none 0 0, .slice none 0 0, .slice none 0 0, .slice none 0 0, .slice none 0 0, .slice none 0 0, .slice none 0 0, .int .i64 (first (cs f n) 0), .int .i64 (first (cs f n) 1), .int .i64 (first (cs f n) 2), .int .i64 (first (cs f n) 3), .int .i64 (first (cs f n) 4), .int .i64 (first (cs f n) 5), .int .i64 (first (cs f n) 6), .int .i64 (first (cs f n) 7), .int .i64 (first (cs f n) 8), .int .i64 (first (cs f n) 9), .int .i64 (first (cs f n) 10), .int .i64 (first (cs f n) 11), .int .i64 (first (cs f n) 12), .int .i64 (first (cs f n) 13), .int .i64 (first (cs f n) 14), .int .i64 (first (cs f n) 15), .int .i64 (nx f n 15)] 270)) wB.heap.size (fun _ => .slice none 0 0) f n 0 := by
  have hb := heap_alloc_new wB (.cells #[.slice none 0 0, .slice none 0 0, .slice none 0 0, .slice none 0 0, .slice none 0 0, .slice none 0 0, .slice none 0 0, .slice none 0 0, .slice none 0 0, .slice none 0 0, .slice none 0 0, .slice none 0 0, .slice none 0 0, .slice none 0 0, .slice none 0 0, .slice none 0 0, .int .i64 (first (cs f n) 0), .int .i64 (first (cs f n) 1), .int .i64 (first (cs f n) 2), .int .i64 (first (cs f n) 3), .int .i64 (first (cs f n) 4), .int .i64 (first (cs f n) 5), .int .i64 (first (cs f n) 6), .int .i64 (first (cs f n) 7), .int .i64 (first (cs f n) 8), .int .i64 (first (cs f n) 9), .int .i64 (first (cs f n) 10), .int .i64 (first (cs f n) 11), .int .i64 (first (cs f n) 12), .int .i64 (first (cs f n) 13), .int .i64 (first (cs f n) 14), .int .i64 (first (cs f n) 15), .int .i64 (nx f n 15)] 270)
  refine ⟨⟨h.size, by simp, unfrozen_of_block hb⟩, fun t ht => ⟨?_, NumRow.nil _ _, by simp [Value.ownBlock]⟩, fun _ _ _ _ _ => .inl rfl, fun t ht => ?_, (cell_of_block hb 32).trans rfl, bal h _⟩
  · rw [cell_of_block hb t]
    clear hb
    rcases (show t = 0 ∨ t = 1 ∨ t = 2 ∨ t = 3 ∨ t = 4 ∨ t = 5 ∨ t = 6 ∨ t = 7 ∨ t = 8 ∨ t = 9 ∨ t = 10 ∨ t = 11 ∨ t = 12 ∨ t = 13 ∨ t = 14 ∨ t = 15 by omega) with rfl | rfl | rfl | rfl | rfl | rfl | rfl | rfl | rfl | rfl | rfl | rfl | rfl | rfl | rfl | rfl <;> rfl
  · rw [cell_of_block hb (16 + t)]
    clear hb
    rcases (show t = 0 ∨ t = 1 ∨ t = 2 ∨ t = 3 ∨ t = 4 ∨ t = 5 ∨ t = 6 ∨ t = 7 ∨ t = 8 ∨ t = 9 ∨ t = 10 ∨ t = 11 ∨ t = 12 ∨ t = 13 ∨ t = 14 ∨ t = 15 by omega) with rfl | rfl | rfl | rfl | rfl | rfl | rfl | rfl | rfl | rfl | rfl | rfl | rfl | rfl | rfl | rfl <;> rfl
set_option maxRecDepth 100000 in
set_option maxHeartbeats 6400000 in
theorem newBook_any (a : Option Addr) (n cap : Nat) (f : Nat → Int) (w : World) (hC : Came w a n f) (hm : n ≤ 288) (hok : OkLens f n) :
    Calls Tryz.prog 151 #[.slice a n cap] w fun e w' => ∃ bk V, e = .returned (.pointer (some ⟨bk, 0, none⟩)) ∧ Book w' w.heap.size w'.heap.size bk V f n ∧ Below w.heap.size w w' := by
  have hct := count_yes a n cap f w hC hm hok
  have hcs : ∀ s, 0 ≤ cs f n s ∧ cs f n s ≤ 288 := fun s => ⟨(cs_bd f n s).1, Int.le_trans (cs_bd f n s).2 (by omega)⟩
  have hfi := fun w => first_any (cs f n) w hcs
  have hfu := fun w => fullTo_any (cs f n) w hcs
  rw [full_room f n hok, room_nx f n hok] at hfu
  have HC := hid_of hC
  have HOK := hid_of hok
  clear hC hok hcs
  go_enter Tryz.func151, Tryz.ntmps151
  go_wp2_with fail
  refine hct.mono ?_
  rintro e w1 ⟨rfl, hB1⟩
  have HB1 : Hid (Below w.heap.size w (w1.alloc (.cells (six (cs f n)) 224))) := bal hB1 _
  have hS1 : Six (w1.alloc (.cells (six (cs f n)) 224)) w1.heap.size 224 (cs f n) := heap_alloc_new w1 _
  clear hct hB1
  go_wp2_with fail
  generalize w1.alloc (.cells (six (cs f n)) 224) = W1 at *
  have k0 := hS1.c
  have z0 := hS1.lt
  have HS1 := hid_of hS1
  clear hS1
  go_region_with (first
    | (go_at_call 141; refine (hfi _).mono ?_; rintro e wA ⟨rfl, hBA⟩; have hSA : Six wA w1.heap.size 224 (cs f n) := (hBA.block _ z0).trans HS1.out; have kA := hSA.c; have zA := hSA.lt; have HBA : Hid (Below w.heap.size w wA) := bnext HB1.out.drew hBA; clear hBA)
    | (go_at_call 140; refine (hfu _).mono ?_; rintro e wB ⟨rfl, hBB⟩; have HBB : Hid (Below w.heap.size w wB) := bnext HBA.out hBB; clear hBB))
  all_goals
    have HI0 := hid_of (bki_start w wB f n HBB.out)
    clear HBB HBA k0 kA hfi hfu z0 zA HS1 HB1
    obtain ⟨bk, hbk⟩ : ∃ bk, bk = wB.heap.size := ⟨_, rfl⟩
    go_wp2_with fail
    generalize wB.alloc _ = W0 at HI0
    rw [← hbk] at HI0
    generalize wB.heap.size = bk0 at *
    subst hbk
    obtain ⟨i0, hi0, hz0, hz1, hz2⟩ := info_parts info_int
    go_loopg [21] (n + 1) (fun gk v w' => ∃ (i : Nat) (V : Nat → Value), i ≤ n ∧ v = .int .i64 (i : Int) ∧ n - i ≤ gk ∧ Hid (BkI w w' bk V f n i))
    case atStart => exact ⟨0, _, Nat.zero_le _, rfl, by omega, HI0⟩
    case round =>
      clear HI0
      obtain ⟨i, V, hin, rfl, hgk, hI⟩ := hrel
      by_cases hlt : i < n
      · have dl : decide ((i : Int) < (n : Int)) = true := decide_eq_true (by omega)
        have dl2 : decide (i < n) = true := decide_eq_true hlt
        have hfi := HOK.out i hlt
        have hcell : ∃ g off, a = some ⟨g, off, none⟩ ∧ g < wr.heap.size ∧ wr.cell? ⟨g, off + i, none⟩ = some (.int .i64 (f i)) := by
          rcases HC.out.called hI.out.2.2.2.2.2 with q | ⟨g, off, q4, q5, q6⟩
          · omega
          · exact ⟨g, off, q4, q5, q6 i hlt⟩
        obtain ⟨g, off, rfl, hgl, hc⟩ := hcell
        have x0 : (0 : Int) ≤ (i : Int) := by omega
        have x1 : (i : Int) < (n : Int) := by omega
        by_cases h0 : f i = 0
        · have HN := hid_of (hI.out.skip h0)
          rw [h0] at hc
          clear hI h0 hfi
          go_wp2_with fail
          go_roundg (n - (i + 1))
          case measure => omega
          case rel => exact ⟨i + 1, V, by omega, by go_num, Nat.le_refl _, HN⟩
        · obtain ⟨t, ht⟩ : ∃ t : Nat, f i = (t : Int) := ⟨(f i).toNat, by omega⟩
          have ht1 : 1 ≤ t := by omega
          have ht2 : t < 16 := by omega
          obtain ⟨c1, c2, c3⟩ := hI.out.2.1 t ht2
          obtain ⟨av, cv, hv, _⟩ := c2.form
          rw [hv] at c1
          have fz := hI.out.1.2.2 t
          have hbl := hI.out.1.2.1
          have hle := symsTo_le f t i
          have hsz := hI.out.2.2.2.2.2.size
          have hown : wr.ownsRow w.heap.size 3 1 (.slice av (symsTo f t i).length cv) (symsTo f t i).length (ivals (symsTo f t i)) := by
            rw [← hv]
            exact c2
          have HALL : Hid (∀ (w7 : World) (g7 cap7 : Nat), w7.ownsRow w.heap.size 3 1 (.slice (some ⟨g7, 0, none⟩) ((symsTo f t i).length + 1) cap7) ((symsTo f t i).length + 1) (ivals (symsTo f t i) ++ [.int .i64 (i : Int)]) → (wr.alloc (.cells #[.int .i64 (i : Int)] 3)).grownBy w7 (Value.slice av (symsTo f t i).length cv).ownBlock → ((Value.slice av (symsTo f t i).length cv).ownBlock = some g7 ∨ g7 = wr.heap.size + 1) →
              (w7.cell? ⟨bk, t, none⟩ = some (.slice av (symsTo f t i).length cv) ∧ w7.frozen? ⟨bk, t, none⟩ = false ∧ bk < w7.heap.size) ∧ Hid (∃ V', BkI w (w7.setCell ⟨bk, t, none⟩ (.slice (some ⟨g7, 0, none⟩) ((symsTo f t i).length + 1) cap7)) bk V' f n (i + 1))) := by
            intro w7 g7 cap7 z1 z2 z3
            rw [← hv] at z2 z3
            obtain ⟨q1, q2⟩ := hI.out.put ht2 ht (by omega) z1 z2 z3
            rw [← hv]
            exact ⟨q1, _, q2⟩
          have HOWN := hid_of hown
          rw [ht] at hc
          clear hI h0 hfi hown c2 c3 hv ht
          generalize (symsTo f t i).length = len at *
          generalize symsTo f t i = L at *
          have t0 : (0 : Int) ≤ (t : Int) := by omega
          have t1 : (t : Int) < 16 := by omega
          have t2 : decide ((0 : Int) < (t : Int)) = true := decide_eq_true (by omega)
          have t3 : decide (0 < t) = true := decide_eq_true (by omega)
          go_wp2_with fail
          go_region_law (refine step_append_lies _ (by rfl) (.tmp 35) (.tmp 37) 26 (by rfl) w.heap.size 3 i0 _ 1 8 Tryz.underlying26 hi0 hz0 hz1 hz2 rfl (by omega) (.slice av len cv) len (ivals L) (by rfl) (World.ownsRow.alloc HOWN.out _) ⟨wr.heap.size, 0, none⟩ 1 1 [.int .i64 (i : Int)] (by rfl) rfl (World.news_of_block (heap_alloc_new wr _)) (by simp [Value.oneCell']) (by omega) (by unfold maxLen; omega) (by omega) (by show _ ≤ (wr.alloc _).heap.size; simp; omega) (wr.heap.size + 1) (by show (wr.alloc _).heap.size = _; simp) ?_; intro g7 cap7 w7 z1 z2 z3 z4; obtain ⟨⟨p0, p1, p2⟩, HN8⟩ := HALL.out w7 g7 cap7 z1 ⟨z2.1, z2.2, z2.3, z2.4, z2.5⟩ z3; clear z1 z2 z3 z4)
          all_goals
            obtain ⟨V', hV'⟩ := HN8.out
            have HN9 := hid_of hV'
            clear hV' HN8 HALL HOWN c1 fz
            go_wp2_with fail
            go_roundg (n - (i + 1))
            case measure => omega
            case rel => exact ⟨i + 1, V', by omega, by go_num, Nat.le_refl _, HN9⟩
      · obtain rfl : i = n := by omega
        have dl : decide ((i : Int) < (i : Int)) = false := decide_eq_false (by omega)
        have HE : Hid (Book wr w.heap.size wr.heap.size bk V f i ∧ Below w.heap.size w wr) := ⟨hI.out.book, hI.out.2.2.2.2.2⟩
        clear hI
        go_wp2_with fail
        go_ret
        exact ⟨bk, V, rfl, HE.out⟩
end Go.Proofs.YtbcnlggkoidmmaaGreatDoor

namespace Go.Proofs.YtbcnlggkoidmmaaGreatDoor
open Go.RowKit Go.Joins

set_option maxHeartbeats 400000 in
theorem has_yes (a : Option Addr) (n cap : Nat) (f : Nat → Int) (x : Nat) (w : World) (hC : Came w a n f) (hx : x < n) (hp : 0 < f x) :
    Calls Tryz.prog 171 #[.slice a n cap, .int .i64 (x : Int)] w fun e w' => e = .returned (.bool true) ∧ w' = w := by
  rcases hC with h0 | ⟨g, off, rfl, hg, hc⟩
  · omega
  · have c0 := hc x hx
    clear hc
    have d0 : decide ((x : Int) < (n : Int)) = true := by simpa using hx
    have d1 : decide (0 < f x) = true := by simpa using hp
    go_enter Tryz.func171, Tryz.ntmps171
    go_wp2_with fail
    go_ret
    exact ⟨rfl, rfl⟩

set_option maxHeartbeats 400000 in
theorem has_no (a : Option Addr) (n cap : Nat) (f : Nat → Int) (x : Int) (w : World) (hC : Came w a n f) (h : ¬ (0 ≤ x ∧ x < n ∧ 0 < f x.toNat)) :
    Calls Tryz.prog 171 #[.slice a n cap, .int .i64 x] w fun e w' => e = .returned (.bool false) ∧ w' = w := by
  by_cases h0 : 0 ≤ x
  · by_cases h1 : x < n
    · obtain ⟨y, rfl⟩ := Int.eq_ofNat_of_zero_le h0
      rcases hC with q0 | ⟨g, off, rfl, hg, hc⟩
      · omega
      · have c0 := hc y (by omega)
        have hq : ¬ 0 < f y := fun q => h ⟨h0, h1, by simpa using q⟩
        clear hc h
        have d0 : decide ((y : Int) < (n : Int)) = true := by simpa using h1
        have d1 : decide (0 < f y) = false := by simpa using hq
        go_enter Tryz.func171, Tryz.ntmps171
        go_wp2_with fail
        go_ret
        exact ⟨rfl, rfl⟩
    · clear h
      have dd : decide (0 ≤ x) = true := by simpa using h0
      have d0 : decide (x < (n : Int)) = false := by simpa using h1
      clear hC
      go_enter Tryz.func171, Tryz.ntmps171
      go_wp2_with fail
      go_ret
      exact ⟨rfl, rfl⟩
  · clear h
    have dd : decide (0 ≤ x) = false := by simpa using h0
    clear hC
    go_enter Tryz.func171, Tryz.ntmps171
    go_wp2_with fail
    go_ret
    exact ⟨rfl, rfl⟩

end Go.Proofs.YtbcnlggkoidmmaaGreatDoor
