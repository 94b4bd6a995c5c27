/-
  The walk of the program's BestBlock.
  The walk of the program's numberPart.
  The walks of the program's writer of bits.
  The walk of a code put by the program's writer.
  The walk of a number put by the program's writer.
-/
import Derived.Test.YtbcnlggkoidmmabGreatDoorRows
import Derived.Test.YtbcnlggkoidmmabGreatDoorPk01
import Derived.Test.YtbcnlggkoidmmabGreatDoorPk02
import Derived.Test.YtbcnlggkoidmmabGreatDoorPk07
import Derived.Test.YtbcnlggkoidmmabGreatDoorPk22
import Derived.Test.YtbcnlggkoidmmabGreatDoorPk03
import Derived.Test.YtbcnlggkoidmmabGreatDoorPk08
import Derived.WalkKit
import Derived.ProofKit
import Derived.WalkLawsBesides
import Derived.RegionTactic
import Derived.Deep.QuietTactic
import Derived.Below
import Derived.Lib.SmallJoins
import Derived.BigRegion
import Derived.Deep.RegionWith
import Derived.Deep.DrawnRows
namespace Go.Proofs.YtbcnlggkoidmmabGreatDoor
open Go.RowKit Go.Joins OutMath TokMath WovenMath

/-- The best so far in block p, whether there is one in block q. -/
def Bst (w : World) (q p : Nat) (o : Option (ByteArray × Nat)) : Prop := w.heap[q]? = some (.cells #[.bool (blkB o)] 4 (0, 0)) ∧ w.heap[p]? = some (.cells #[.string (blkS o), .int .i64 (blkN o)] 27 (0, 0))
theorem Bst.called {w w' : World} {q p : Nat} {o : Option (ByteArray × Nat)} (h : Bst w q p o) (hb : Below w.heap.size w w') : Bst w' q p o := ⟨(hb.block _ (block_lt h.1)).trans h.1, (hb.block _ (block_lt h.2)).trans h.2⟩
/-- Nothing else is turned. -/
def But2 (w w' : World) (q p : Nat) : Prop := w'.os = w.os ∧ w'.tape = w.tape ∧ w'.output = w.output ∧ w.heap.size ≤ w'.heap.size ∧ ∀ g, g < w.heap.size → g ≠ q → g ≠ p → w'.heap[g]? = w.heap[g]?
theorem But2.below {w w' : World} {q p B : Nat} (h : But2 w w' q p) (hq : B ≤ q) (hp : B ≤ p) (hB : B ≤ w.heap.size) : Below B w w' := ⟨h.1, h.2.1, h.2.2.1, h.2.2.2.1, fun k hk => h.2.2.2.2 k (by omega) (by omega) (by omega)⟩

section
variable (q p : Nat) (o n : Option (ByteArray × Nat)) (w : World)
set_option maxRecDepth 100000 in
set_option maxHeartbeats 1600000 in
theorem offer_any (h : Bst w q p o) (hqp : q ≠ p) :
    Calls Tryz.prog 16 #[.agg #[.string (blkS n), .int .i64 (blkN n)], .bool (blkB n), .pointer (some ⟨q, 0, none⟩), .pointer (some ⟨p, 0, none⟩)] w fun e w' => e = .returned (.tuple #[]) ∧ Bst w' q p (better o n) ∧ But2 w w' q p := by
  have HB0 : Hid (∀ ob, But2 w (w.alloc ob) q p) := fun ob => ⟨rfl, rfl, rfl, by simp, fun g hg _ _ => (bstart w ob).block g hg⟩
  have HS0 : Hid (∀ ob, Bst (w.alloc ob) q p o) := fun ob => h.called (bstart w ob)
  have hql := block_lt h.1
  have hpl := block_lt h.2
  have q0 : w.cell? ⟨q, 0, none⟩ = some (.bool (blkB o)) := (cell_of_block h.1 0).trans rfl
  have p0 : w.cell? ⟨p, 0, none⟩ = some (.string (blkS o)) := (cell_of_block h.2 0).trans rfl
  have p1 : w.cell? ⟨p, 1, none⟩ = some (.int .i64 (blkN o)) := (cell_of_block h.2 1).trans rfl
  have qf : ∀ j, w.frozen? ⟨q, j, none⟩ = false := fun j => by simp [World.frozen?, h.1]
  have pf : ∀ j, w.frozen? ⟨p, j, none⟩ = false := fun j => by simp [World.frozen?, h.2]
  have HST : Hid (∀ (X : World) (bs : ByteArray) (bn : Nat), Bst X q p o → But2 w X q p → Bst (((X.setCell ⟨p, 0, none⟩ (.string bs)).setCell ⟨p, 1, none⟩ (.int .i64 (bn : Int))).setCell ⟨q, 0, none⟩ (.bool true)) q p (some (bs, bn)) ∧ But2 w (((X.setCell ⟨p, 0, none⟩ (.string bs)).setCell ⟨p, 1, none⟩ (.int .i64 (bn : Int))).setCell ⟨q, 0, none⟩ (.bool true)) q p) := by
    intro X bs bn hX hb
    refine ⟨⟨?_, ?_⟩, ⟨hb.1, hb.2.1, hb.2.2.1, by have := hb.2.2.2.1; simp; omega, fun g hg h1 h2 => ?_⟩⟩
    · have hx : ((X.setCell ⟨p, 0, none⟩ (.string bs)).setCell ⟨p, 1, none⟩ (.int .i64 (bn : Int))).heap[q]? = some (.cells #[.bool (blkB o)] 4 (0, 0)) := (Below.heap_setCell _ _ _ _ hqp).trans ((Below.heap_setCell _ _ _ _ hqp).trans hX.1)
      have := block_setCell (i := 0) hx (.bool true)
      show _ = some (Obj.cells #[.bool true] 4 (0, 0))
      simpa using this
    · exact (Below.heap_setCell _ _ _ _ (Ne.symm hqp)).trans (two_set hX.2 _ _)
    · exact (Below.heap_setCell _ _ _ _ h1).trans ((Below.heap_setCell _ _ _ _ h2).trans ((Below.heap_setCell _ _ _ _ h2).trans (hb.2.2.2.2 g hg h1 h2)))
  have HOLD := hid_of h
  clear h
  cases n with
  | none =>
    have HE : Hid (better o none = o) := by cases o <;> rfl
    simp only [blkB, blkS, blkN]
    clear HST HOLD
    go_enter Tryz.func16, Tryz.ntmps16
    go_wp2_with fail
    go_end0
    exact ⟨rfl, by rw [HE.out]; exact HS0.out _, HB0.out _⟩
  | some y =>
    obtain ⟨ys, yn⟩ := y
    have HFIN : Hid (∀ ob, Bst ((((w.setCell ⟨p, 0, none⟩ (.string ys)).setCell ⟨p, 1, none⟩ (.int .i64 (yn : Int))).setCell ⟨q, 0, none⟩ (.bool true)).alloc ob) q p (some (ys, yn)) ∧ But2 w ((((w.setCell ⟨p, 0, none⟩ (.string ys)).setCell ⟨p, 1, none⟩ (.int .i64 (yn : Int))).setCell ⟨q, 0, none⟩ (.bool true)).alloc ob) q p) := by
      intro ob
      have h1 := HST.out w ys yn HOLD.out ⟨rfl, rfl, rfl, Nat.le_refl _, fun _ _ _ _ => rfl⟩
      generalize ((w.setCell ⟨p, 0, none⟩ (.string ys)).setCell ⟨p, 1, none⟩ (.int .i64 (yn : Int))).setCell ⟨q, 0, none⟩ (.bool true) = Z at h1 ⊢
      refine ⟨h1.1.called (bstart _ _), h1.2.1, h1.2.2.1, h1.2.2.2.1, Nat.le_trans h1.2.2.2.2.1 (by simp), fun g hg e1 e2 => ((bstart Z ob).block g (Nat.lt_of_lt_of_le hg h1.2.2.2.2.1)).trans (h1.2.2.2.2.2 g hg e1 e2)⟩
    clear HST HOLD
    cases o with
    | none =>
      have HE : Hid (better none (some (ys, yn)) = some (ys, yn)) := rfl
      simp only [blkB, blkS, blkN] at q0 p0 p1 ⊢
      clear HS0 HB0
      go_enter Tryz.func16, Tryz.ntmps16
      go_wp2_with fail
      go_end0
      exact ⟨rfl, by rw [HE.out]; exact (HFIN.out _).1, (HFIN.out _).2⟩
    | some x =>
      obtain ⟨xs, xn⟩ := x
      simp only [blkB, blkS, blkN] at q0 p0 p1 ⊢
      by_cases hlt : yn < xn
      · have HE : Hid (better (some (xs, xn)) (some (ys, yn)) = some (ys, yn)) := if_pos hlt
        have dl : decide ((yn : Int) < (xn : Int)) = true := decide_eq_true (by omega)
        have dl2 : decide (yn < xn) = true := decide_eq_true hlt
        clear HS0 HB0
        go_enter Tryz.func16, Tryz.ntmps16
        go_wp2_with fail
        go_end0
        exact ⟨rfl, by rw [HE.out]; exact (HFIN.out _).1, (HFIN.out _).2⟩
      · have HE : Hid (better (some (xs, xn)) (some (ys, yn)) = some (xs, xn)) := if_neg hlt
        have dl : decide ((yn : Int) < (xn : Int)) = false := decide_eq_false (by omega)
        have dl2 : decide (yn < xn) = false := decide_eq_false hlt
        clear HFIN
        go_enter Tryz.func16, Tryz.ntmps16
        go_wp2_with fail
        go_end0
        exact ⟨rfl, by rw [HE.out]; exact HS0.out _, HB0.out _⟩
end
/-- The boxes of the call: the Out that it is handed, its answer's; the best so far. -/
def BbX (w X : World) (s : ByteArray) (c : Int) (o : Option (ByteArray × Nat)) : Prop := Below w.heap.size w X ∧ X.heap[w.heap.size]? = some (.cells #[.string s, .int .i64 c] 27 (0, 0)) ∧ X.heap[w.heap.size + 1]? = some (.cells #[.string ⟨#[]⟩, .int .i64 0] 27 (0, 0)) ∧ Bst X (w.heap.size + 3) (w.heap.size + 2) o
theorem BbX.called {w X Y : World} {s : ByteArray} {c : Int} {o : Option (ByteArray × Nat)} (h : BbX w X s c o) (hb : Below X.heap.size X Y) : BbX w Y s c o :=
  ⟨bnext h.1 hb, (hb.block _ (block_lt h.2.1)).trans h.2.1, (hb.block _ (block_lt h.2.2.1)).trans h.2.2.1, h.2.2.2.called hb⟩
theorem BbX.offered {w X Y : World} {s : ByteArray} {c : Int} {o o' : Option (ByteArray × Nat)} (h : BbX w X s c o) (hB : Bst Y (w.heap.size + 3) (w.heap.size + 2) o') (hb : But2 X Y (w.heap.size + 3) (w.heap.size + 2)) : BbX w Y s c o' :=
  ⟨h.1.trans (hb.below (by omega) (by omega) h.1.size), (hb.2.2.2.2 _ (block_lt h.2.1) (by omega) (by omega)).trans h.2.1, (hb.2.2.2.2 _ (block_lt h.2.2.1) (by omega) (by omega)).trans h.2.2.1, hB⟩
theorem four_blocks (w : World) (A B C D : Obj) : ((((w.alloc A).alloc B).alloc C).alloc D).heap[w.heap.size]? = some A ∧ ((((w.alloc A).alloc B).alloc C).alloc D).heap[w.heap.size + 1]? = some B ∧ ((((w.alloc A).alloc B).alloc C).alloc D).heap[w.heap.size + 2]? = some C ∧ ((((w.alloc A).alloc B).alloc C).alloc D).heap[w.heap.size + 3]? = some D := by
  have s1 : (w.alloc A).heap.size = w.heap.size + 1 := by simp
  have s2 : ((w.alloc A).alloc B).heap.size = w.heap.size + 2 := by simp
  have s3 : (((w.alloc A).alloc B).alloc C).heap.size = w.heap.size + 3 := by simp
  refine ⟨?_, ?_, ?_, ?_⟩
  · rw [(bstart _ D).block _ (by omega), (bstart _ C).block _ (by omega), (bstart _ B).block _ (by omega)]
    exact heap_alloc_new w A
  · rw [(bstart _ D).block _ (by omega), (bstart _ C).block _ (by omega), ← s1]
    exact heap_alloc_new (w.alloc A) B
  · rw [(bstart _ D).block _ (by omega), ← s2]
    exact heap_alloc_new ((w.alloc A).alloc B) C
  · rw [← s3]
    exact heap_alloc_new (((w.alloc A).alloc B).alloc C) D

set_option maxRecDepth 100000 in
set_option maxHeartbeats 3200000 in
theorem best_answer (hS : StoredAnswer) (hF : FixedAnswer) (hWv : WovenAnswer) : BestBlockAnswer := by
  intro s c t a cp L last w hs hc1 hc2 ht hC hL hG
  have HX : Hid (BbX w ((((w.alloc (.cells #[.string s, .int .i64 c] 27)).alloc (.cells #[.string ⟨#[]⟩, .int .i64 0] 27)).alloc (.cells #[.string ⟨#[]⟩, .int .i64 0] 27)).alloc (.cells #[.bool false] 4)) s c none) := by
    obtain ⟨q1, q2, q3, q4⟩ := four_blocks w (.cells #[.string s, .int .i64 c] 27) (.cells #[.string ⟨#[]⟩, .int .i64 0] 27) (.cells #[.string ⟨#[]⟩, .int .i64 0] 27) (.cells #[.bool false] 4)
    exact ⟨bal (bal (bal (bstart _ _) _) _) _, q1, q2, q4, q3⟩
  have HC := hid_of hC
  have HG := hid_of hG
  have HS : Hid (∀ W : World, Calls Tryz.prog 17 #[.agg #[.string s, .int .i64 c], .string t, .bool last] W fun e w' => e = .returned (.tuple #[.agg #[.string (blkS (storedOut s c t last)), .int .i64 (blkN (storedOut s c t last))], .bool (blkB (storedOut s c t last))]) ∧ Below W.heap.size W w') := fun W => by
    rw [← blkAns_parts]
    exact hS s c t last W hs hc1 hc2 ht
  have HF : Hid (∀ W : World, TCame W a L.length (fun j => L.getD j (0, 0, 0)) → Calls Tryz.prog 18 #[.agg #[.string s, .int .i64 c], .slice a L.length cp, .bool last] W fun e w' => e = .returned (.tuple #[.agg #[.string (blkS (fixedOut s c L last)), .int .i64 (blkN (fixedOut s c L last))], .bool (blkB (fixedOut s c L last))]) ∧ Below W.heap.size W w') := fun W hC => by
    rw [← blkAns_parts]
    exact hF s c a cp L last W hs hc1 hc2 hC hL
  have HW : Hid (∀ W : World, TCame W a L.length (fun j => L.getD j (0, 0, 0)) → OrderG W → Calls Tryz.prog 19 #[.agg #[.string s, .int .i64 c], .slice a L.length cp, .bool last] W fun e w' => e = .returned (.tuple #[.agg #[.string (blkS (wovenOut s c L last)), .int .i64 (blkN (wovenOut s c L last))], .bool (blkB (wovenOut s c L last))]) ∧ Below W.heap.size W w') := fun W hC hG => by
    rw [← blkAns_parts]
    exact hWv s c a cp L last W hs hc1 hc2 hC hL hG
  have HOFF : Hid (∀ (o n : Option (ByteArray × Nat)) (W : World), Bst W (w.heap.size + 3) (w.heap.size + 2) o → Calls Tryz.prog 16 #[.agg #[.string (blkS n), .int .i64 (blkN n)], .bool (blkB n), .pointer (some ⟨w.heap.size + 3, 0, none⟩), .pointer (some ⟨w.heap.size + 2, 0, none⟩)] W fun e w' => e = .returned (.tuple #[]) ∧ Bst w' (w.heap.size + 3) (w.heap.size + 2) (better o n) ∧ But2 W w' (w.heap.size + 3) (w.heap.size + 2)) := fun o n W h => offer_any _ _ o n W h (by omega)
  have HE : Hid (bestOut s c t L last = better (better (better none (storedOut s c t last)) (fixedOut s c L last)) (wovenOut s c L last)) := rfl
  clear hS hF hWv hC hG
  generalize storedOut s c t last = o1 at *
  generalize fixedOut s c L last = o2 at *
  generalize wovenOut s c L last = o3 at *
  have hmf : ∀ (fn : Fn) (first cap : Array Value) (w : World), (Instr.makeFunc fn first cap).run Tryz.prog w = .ok (.func fn first cap) w := fun _ _ _ _ => rfl
  go_enter Tryz.func9, Tryz.ntmps9
  go_wp2_with fail
  generalize (((w.alloc _).alloc _).alloc _).alloc _ = X at HX ⊢
  obtain ⟨x0, x1, xl⟩ : X.cell? ⟨w.heap.size, 0, none⟩ = some (.string s) ∧ X.cell? ⟨w.heap.size, 1, none⟩ = some (.int .i64 c) ∧ w.heap.size < X.heap.size := ⟨(cell_of_block HX.out.2.1 0).trans rfl, (cell_of_block HX.out.2.1 1).trans rfl, block_lt HX.out.2.1⟩
  go_wp2_with fail
  refine (HS.out X).mono ?_
  rintro e w1 ⟨rfl, b1⟩
  have HX1 := hid_of (HX.out.called b1)
  clear b1 HX x0 x1 xl HS
  go_wp2_with fail
  refine (HOFF.out none o1 w1 HX1.out.2.2.2).mono ?_
  rintro e w2 ⟨rfl, hB2, hb2⟩
  have HX2 := hid_of (HX1.out.offered hB2 hb2)
  clear hB2 hb2 HX1
  obtain ⟨x0, x1, xl⟩ : w2.cell? ⟨w.heap.size, 0, none⟩ = some (.string s) ∧ w2.cell? ⟨w.heap.size, 1, none⟩ = some (.int .i64 c) ∧ w.heap.size < w2.heap.size := ⟨(cell_of_block HX2.out.2.1 0).trans rfl, (cell_of_block HX2.out.2.1 1).trans rfl, block_lt HX2.out.2.1⟩
  go_wp2_with fail
  refine (HF.out w2 (HC.out.called HX2.out.1)).mono ?_
  rintro e w3 ⟨rfl, b3⟩
  have HX3 := hid_of (HX2.out.called b3)
  clear b3 HX2 x0 x1 xl HF
  go_wp2_with fail
  refine (HOFF.out _ o2 w3 HX3.out.2.2.2).mono ?_
  rintro e w4 ⟨rfl, hB4, hb4⟩
  have HX4 := hid_of (HX3.out.offered hB4 hb4)
  clear hB4 hb4 HX3
  obtain ⟨x0, x1, xl⟩ : w4.cell? ⟨w.heap.size, 0, none⟩ = some (.string s) ∧ w4.cell? ⟨w.heap.size, 1, none⟩ = some (.int .i64 c) ∧ w.heap.size < w4.heap.size := ⟨(cell_of_block HX4.out.2.1 0).trans rfl, (cell_of_block HX4.out.2.1 1).trans rfl, block_lt HX4.out.2.1⟩
  go_wp2_with fail
  refine (HW.out w4 (HC.out.called HX4.out.1) (HG.out.below HX4.out.1 HG.out.1)).mono ?_
  rintro e w5 ⟨rfl, b5⟩
  have HX5 := hid_of (HX4.out.called b5)
  clear b5 HX4 x0 x1 xl HW HC HG
  go_wp2_with fail
  refine (HOFF.out _ o3 w5 HX5.out.2.2.2).mono ?_
  rintro e w6 ⟨rfl, hB6, hb6⟩
  have HX6 := hid_of (HX5.out.offered hB6 hb6)
  clear hB6 hb6 HX5 HOFF
  rw [← HE.out] at HX6
  obtain ⟨oo, hoo⟩ : ∃ oo, oo = bestOut s c t L last := ⟨_, rfl⟩
  rw [← hoo] at HX6
  have HOO := hid_of hoo
  clear hoo
  obtain ⟨z1, z2, z3, z4⟩ := HX6.out
  have r0 : w6.cell? ⟨w.heap.size + 1, 0, none⟩ = some (.string ⟨#[]⟩) := (cell_of_block z3 0).trans rfl
  have r1 : w6.cell? ⟨w.heap.size + 1, 1, none⟩ = some (.int .i64 0) := (cell_of_block z3 1).trans rfl
  have rf : ∀ q, w6.frozen? ⟨w.heap.size + 1, q, none⟩ = false := fun q => by simp [World.frozen?, z3]
  have rl := block_lt z3
  have y0 : w6.cell? ⟨w.heap.size + 2, 0, none⟩ = some (.string (blkS oo)) := (cell_of_block z4.2 0).trans rfl
  have y1 : w6.cell? ⟨w.heap.size + 2, 1, none⟩ = some (.int .i64 (blkN oo)) := (cell_of_block z4.2 1).trans rfl
  have y2 : w6.cell? ⟨w.heap.size + 3, 0, none⟩ = some (.bool (blkB oo)) := (cell_of_block z4.1 0).trans rfl
  have yl := block_lt z4.2
  have yl2 := block_lt z4.1
  have HB6 := hid_of z1
  have HAN := hid_of (blkAns_parts oo)
  clear z1 z2 z3 z4 HX6 HE
  generalize blkS oo = bs at *
  generalize blkN oo = bn at *
  generalize blkB oo = bb at *
  go_wp2_with fail
  go_region
  all_goals
    go_wp2_with fail
    refine bodyPost_ret (v := .tuple #[.agg #[.string bs, .int .i64 bn], .bool bb]) ?_ rfl ⟨by rw [← HOO.out, HAN.out], ?_⟩
    · simp [results, Tryz.results9, go_sem, r0, r1]
    · first | exact two_below HB6.out (Nat.le_succ _) _ _ | exact (two_below HB6.out (Nat.le_succ _) _ _).drew
end Go.Proofs.YtbcnlggkoidmmabGreatDoor

namespace Go.Proofs.YtbcnlggkoidmmabGreatDoor
open Go.RowKit Go.Joins

set_option maxHeartbeats 400000 in
theorem numberPart_any (x n : Int) (w : World) :
    Calls Tryz.prog 37 #[.int .i64 x, .int .i64 n] w fun e w' => e = .returned (.agg #[.int .i64 x, .int .i64 n, .bool false]) ∧ Below w.heap.size w w' := by
  go_enter Tryz.func37, Tryz.ntmps37
  go_wp2_with fail
  refine bodyPost_ret (v := .agg #[.int .i64 x, .int .i64 n, .bool false]) ?_ rfl ⟨rfl, ?_⟩
  · simp [results, Tryz.results37, go_sem]
  · exact bstart _ _
end Go.Proofs.YtbcnlggkoidmmabGreatDoor

namespace Go.Proofs.YtbcnlggkoidmmabGreatDoor
open Go.RowKit Go.Joins OutMath PutMath

/-- Block b is a writer: its bytes are xs, in block g; c bits were put. -/
def Wr (w : World) (base b g L cap : Nat) (xs : List Int) (c : Int) : Prop :=
  w.heap[b]? = some (.cells #[.slice (some ⟨g, 0, none⟩) L cap, .int .i64 c] 103 (0, 0)) ∧ Own 5 w base g (.slice (some ⟨g, 0, none⟩) L cap) (u8s xs) ∧ b ≠ g ∧ base ≤ b
section
variable {w : World} {base b g L cap : Nat} {xs : List Int} {c : Int}
theorem Wr.c0 (h : Wr w base b g L cap xs c) : w.cell? ⟨b, 0, none⟩ = some (.slice (some ⟨g, 0, none⟩) L cap) := cell_of_block h.1 0
theorem Wr.c1 (h : Wr w base b g L cap xs c) : w.cell? ⟨b, 1, none⟩ = some (.int .i64 c) := cell_of_block h.1 1
theorem Wr.f (h : Wr w base b g L cap xs c) (i : Nat) : w.frozen? ⟨b, i, none⟩ = false := unfrozen_of_block h.1 i
theorem Wr.len (h : Wr w base b g L cap xs c) : L = xs.length := by
  obtain ⟨cp, hv⟩ := h.2.1.form
  simp [u8s] at hv
  exact hv.1
theorem Wr.lt (h : Wr w base b g L cap xs c) : b < w.heap.size := by
  rcases Nat.lt_or_ge b w.heap.size with k | k
  · exact k
  · have := h.1; rw [Array.getElem?_eq_none k] at this; cases this
end

theorem bytes_u8s (s : ByteArray) : u8s (s.data.toList.map fun b => (b.toNat : Int)) = s.data.toList.map fun b => .int .u8 b.toNat := by simp [u8s]

set_option maxHeartbeats 400000 in
theorem newWriter (s : ByteArray) (c : Int) (w : World) (hs : s.size ≤ 12000) :
    Calls Tryz.prog 58 #[.agg #[.string s, .int .i64 c]] w fun e w' => ∃ b g cap, e = .returned (.pointer (some ⟨b, 0, none⟩)) ∧ Wr w' w.heap.size b g s.size cap (s.data.toList.map fun b => (b.toNat : Int)) c ∧ Below w.heap.size w w' := by
  have hcv := fun w' => run_bytes_of_string (P := Tryz.prog) w' 9 86 5 s Tryz.underlying9 Tryz.underlying86 Tryz.underlying5
  go_enter Tryz.func58, Tryz.ntmps58
  go_wp2
  go_ret
  have hO := own_of_bytes (base := w.heap.size) (w.alloc (.cells #[.string s, .int .i64 c] 27)) 5 s (by unfold maxLen; omega) (by simp)
  refine ⟨w.heap.size + 1 + 1, w.heap.size + 1, grownCap (w.alloc (.cells #[.string s, .int .i64 c] 27)) s.size 0 5, rfl, ⟨?_, ?_, by omega, by omega⟩, ?_⟩
  · show (((w.heap.push _).push _).push _)[w.heap.size + 1 + 1]? = _
    rw [Array.getElem?_push, if_pos (by simp)]
  · rw [bytes_u8s]
    have hO2 := hO.alloc (.cells #[.slice (some ⟨w.heap.size + 1, 0, none⟩) s.size (grownCap (w.alloc (.cells #[.string s, .int .i64 c] 27)) s.size 0 5), .int .i64 c] 103)
    rw [show (w.alloc (.cells #[.string s, .int .i64 c] 27)).heap.size = w.heap.size + 1 by simp] at hO2
    exact hO2.keep rfl
  · exact (bal (bal (bstart _ _) _) _).drew

theorem putWorld {w : World} {base b g m cap : Nat} {v : Value} {xs : List Int} {c : Nat} {y bit : Int}
    (hb : w.heap[b]? = some (.cells #[.slice (some ⟨g, 0, none⟩) (m + 1) cap, .int .i64 c] 103 (0, 0))) (hO : Own 5 w base g (.slice (some ⟨g, 0, none⟩) (m + 1) cap) (u8s (pre xs c))) (hne : b ≠ g) (hbase : base ≤ b) (hI : Inv xs c) (hm : c / 8 = m) (hy : y = (pre xs c).getD m 0) (hv : v = .int .u8 (y + bit * p2 (c % 8))) :
    Wr ((w.setCell ⟨g, m, none⟩ v).setCell ⟨b, 1, none⟩ (.int .i64 ((c : Int) + 1))).drew base b g (m + 1) cap (bstep xs c bit) ((c : Int) + 1) := by
  subst hv
  have h1 := own_bstep (b := bit) hO hI hm hy
  have hb1 : (w.setCell ⟨g, m, none⟩ (.int .u8 (y + bit * p2 (c % 8)))).heap[b]? = some (.cells #[.slice (some ⟨g, 0, none⟩) (m + 1) cap, .int .i64 c] 103 (0, 0)) := by
    rw [Below.heap_setCell w _ _ b (by simpa using hne)]; exact hb
  refine ⟨?_, ?_, hne, hbase⟩
  · have := block_setCell (i := 1) hb1 (.int .i64 ((c : Int) + 1))
    simp at this
    exact this
  · refine h1.keep ?_
    exact Below.heap_setCell (w.setCell ⟨g, m, none⟩ (.int .u8 (y + bit * p2 (c % 8)))) ⟨b, 1, none⟩ _ g (by simpa using Ne.symm hne)

set_option maxHeartbeats 800000 in
theorem putBit_some (bit : Int) (b g m cap : Nat) (xs : List Int) (c : Nat) (base : Nat) (w : World) (hW : Wr w base b g (m + 1) cap xs c) (hI : Inv xs c) (hm1 : 8 * m ≤ c) (hm2 : c < 8 * m + 8) (h8 : ¬ c % 8 = 0) (hc : c < 96000) (h0 : 0 ≤ bit) (h1 : bit ≤ 1) :
    Calls Tryz.prog 98 #[.pointer (some ⟨b, 0, none⟩), .int .i64 bit] w fun e w' => e = .returned (.tuple #[]) ∧ Wr w' base b g (m + 1) cap (bstep xs c bit) ((c : Int) + 1) ∧ Below base w w' := by
  have c0 := hW.c0
  have c1 := hW.c1
  have fb := hW.f
  have ht : (c : Int).tmod 8 = (c : Int) % 8 := Int.tmod_eq_emod_of_nonneg (by omega)
  have hd : (c : Int).tdiv 8 = m := by rw [Int.tdiv_eq_ediv_of_nonneg (by omega)]; omega
  have hd' : (c : Int) / 8 = m := by omega
  have d8 : ((c : Int) % 8 == 0) = false := by simp; omega
  have hpr : pre xs c = xs := by unfold pre; rw [if_neg h8]
  have em : c / 8 = m := by omega
  have hl : xs.length = m + 1 := hW.len.symm
  have hcy := own_u8 hW.2.1 m (by omega)
  obtain ⟨y, hy⟩ : ∃ y, y = xs.getD m 0 := ⟨_, rfl⟩
  rw [← hy] at hcy
  obtain ⟨cy, fy⟩ := hcy
  have hyb := pre_last hI
  rw [hpr, em, ← hy] at hyb
  have HV : Hid (bits .or .u8 y (wrap64 (bit * 2 ^ (c % 8)) % 256) = y + bit * p2 (c % 8)) := or_put y bit (c % 8) (by omega) hyb.1 hyb.2 h0 h1
  have HW : Hid (Wr w base b g (m + 1) cap xs c) := hW
  have HI : Hid (Inv xs c) := hI
  have HP : Hid (pre xs c = xs) := hpr
  have HE : Hid (c / 8 = m) := em
  have HY : Hid (y = xs.getD m 0) := hy
  have e2 : IntKind.i64.wrap (m : Int) = m := by rw [IntKind.wrap_i64]; omega
  have b1 : (0 : Int) ≤ m := by omega
  have b2 : (m : Int) < (m : Int) + 1 := by omega
  have hne := hW.2.2.1
  clear hW hI hpr em hl hy h8 hyb
  go_enter Tryz.func98, Tryz.ntmps98
  go_wp2_with fail
  go_region
  go_wp2_with fail
  go_end0
  refine ⟨rfl, putWorld (y := y) (bit := bit) HW.out.1 (by rw [HP.out]; exact HW.out.2.1) hne HW.out.2.2.2 HI.out HE.out (by rw [HP.out]; exact HY.out) (by rw [HV.out]), ?_⟩
  exact (((Below.refl _ _).setCell HW.out.2.1.base_le _).setCell HW.out.2.2.2 _).drew

set_option maxHeartbeats 800000 in
theorem putBit_none (bit : Int) (b g m cap : Nat) (xs : List Int) (c : Nat) (base : Nat) (w : World) (hW : Wr w base b g m cap xs c) (hI : Inv xs c) (hm : c = 8 * m) (hc : c < 96000) (h0 : 0 ≤ bit) (h1 : bit ≤ 1) :
    Calls Tryz.prog 98 #[.pointer (some ⟨b, 0, none⟩), .int .i64 bit] w fun e w' => ∃ g' cap', e = .returned (.tuple #[]) ∧ Wr w' base b g' (m + 1) cap' (bstep xs c bit) ((c : Int) + 1) ∧ Below base w w' := by
  have c0 := hW.c0
  have c1 := hW.c1
  have fb := hW.f
  have hblt := hW.lt
  have hne := hW.2.2.1
  have hbb := hW.2.2.2
  have hbg := hW.2.1.base_le
  have hglt := hW.2.1.lt
  have ht : (c : Int).tmod 8 = (c : Int) % 8 := Int.tmod_eq_emod_of_nonneg (by omega)
  have hd : (c : Int).tdiv 8 = m := by rw [Int.tdiv_eq_ediv_of_nonneg (by omega)]; omega
  have hd' : (c : Int) / 8 = m := by omega
  have d8 : ((c : Int) % 8 == 0) = true := by simp; omega
  have HPR : Hid (u8s xs ++ [.int .u8 0] = u8s (pre xs c)) := by unfold pre; rw [if_pos (by omega)]; exact u8s_snoc xs 0
  have HE : Hid (c / 8 = m) := by show c / 8 = m; omega
  have HI : Hid (Inv xs c) := hI
  have hl63 : (u8s xs).length + 1 ≤ maxLen ∧ ((u8s xs).length + 1) * 1 ≤ 140737488355328 := by rw [u8s_length, hI.1]; unfold maxLen; omega
  have hyb := pre_last hI
  rw [HE.out] at hyb
  obtain ⟨y, hy⟩ : ∃ y, y = (pre xs c).getD m 0 := ⟨_, rfl⟩
  rw [← hy] at hyb
  have HV : Hid (bits .or .u8 y (wrap64 (bit * 2 ^ (c % 8)) % 256) = y + bit * p2 (c % 8)) := or_put y bit (c % 8) (by omega) hyb.1 hyb.2 h0 h1
  have HY : Hid (y = (pre xs c).getD m 0) := hy
  have HW : Hid (Wr w base b g m cap xs c) := hW
  have e2 : IntKind.i64.wrap (m : Int) = m := by rw [IntKind.wrap_i64]; omega
  have b1 : (0 : Int) ≤ m := by omega
  have b2 : (m : Int) < (m : Int) + 1 := by omega
  have hm1 : 8 * m ≤ c := by omega
  have hm2 : c < 8 * m + 8 := by omega
  clear hW hI hy hyb hm
  obtain ⟨i0, hi0, hz0, hz1, hz2⟩ := info_parts info_u8
  go_enter Tryz.func98, Tryz.ntmps98
  go_wp2_with (at_builtin; refine wpList_append1 rfl _ _ 86 rfl i0 (.int .u8 0) 1 Tryz.underlying86 hi0 hz0 hz1 hz2 rfl rfl (HW.out.2.1.alloc _) ⟨w.heap.size, 0, none⟩ 1 (.int .u8 0) rfl ?c1 rfl rfl hl63.1 hl63.2 ?_)
  case c1 => simp
  · intro g1 v1 w1 hO1 hg1 hgr
    have hO2 : Own 5 w1 base g1 v1 (u8s (pre xs c)) := by rw [← HPR.out]; exact hO1
    have hB1 : Below base w w1 := ((Below.refl _ _).alloc (by omega) _).grown hgr (by simp; omega) (fun k hk => by cases hk; exact hbg)
    obtain ⟨cap1, hv1⟩ := hO2.form
    have hpl1 : (u8s (pre xs c)).length = m + 1 := by rw [u8s_length, pre_len HI.out, HE.out]
    rw [hpl1] at hv1
    rw [hv1]
    rw [hv1] at hO2
    have hne1 : b ≠ g1 := by
      rcases hg1 with rfl | hg1
      · exact hne
      · omega
    have hblk : w1.heap[b]? = some (.cells #[.slice (some ⟨g, 0, none⟩) m cap, .int .i64 c] 103 (0, 0)) := by
      rw [hgr.block b (by simp; omega) (by simpa using hne), Below.heap_alloc w _ b hblt]
      exact HW.out.1
    have hblk2 := block_setCell (i := 0) hblk (.slice (some ⟨g1, 0, none⟩) (m + 1) cap1)
    have hO3 : Own 5 (w1.setCell ⟨b, 0, none⟩ (.slice (some ⟨g1, 0, none⟩) (m + 1) cap1)) base g1 (.slice (some ⟨g1, 0, none⟩) (m + 1) cap1) (u8s (pre xs c)) := hO2.keep (Below.heap_setCell w1 ⟨b, 0, none⟩ _ g1 (by simpa using Ne.symm hne1))
    have q0 : w1.cell? ⟨b, 0, none⟩ = some (.slice (some ⟨g, 0, none⟩) m cap) := cell_of_block hblk 0
    have q1 : w1.cell? ⟨b, 1, none⟩ = some (.int .i64 c) := cell_of_block hblk 1
    have qf : ∀ i, w1.frozen? ⟨b, i, none⟩ = false := unfrozen_of_block hblk
    have hcy := own_u8 hO2 m (by have := pre_len HI.out; rw [HE.out] at this; omega)
    rw [← HY.out] at hcy
    obtain ⟨cy, fy⟩ := hcy
    have HB : Hid ((w1.setCell ⟨b, 0, none⟩ (.slice (some ⟨g1, 0, none⟩) (m + 1) cap1)).heap[b]? = some (.cells #[.slice (some ⟨g1, 0, none⟩) (m + 1) cap1, .int .i64 c] 103 (0, 0))) := by
      have hh := hblk2
      simp at hh
      exact hh
    have HO3 : Hid (Own 5 (w1.setCell ⟨b, 0, none⟩ (.slice (some ⟨g1, 0, none⟩) (m + 1) cap1)) base g1 (.slice (some ⟨g1, 0, none⟩) (m + 1) cap1) (u8s (pre xs c))) := hO3
    have hbl1 := hO1.base_le
    clear hO1 hg1 hgr hpl1 hv1 hO2 hO3 hblk hblk2 hl63 hi0 hz0 hz1 hz2 c0 c1 fb
    go_wp2_with fail
    go_region
    go_wp2_with fail
    go_end0
    refine ⟨g1, cap1, rfl, putWorld (y := y) (bit := bit) HB.out HO3.out hne1 hbb HI.out HE.out HY.out (by rw [HV.out]), ?_⟩
    exact ((((hB1.setCell hbb _)).setCell hbl1 _).setCell hbb _).drew

theorem putBit_any (bit : Int) (b g L cap : Nat) (xs : List Int) (c : Nat) (base : Nat) (w : World) (hW : Wr w base b g L cap xs c) (hI : Inv xs c) (hc : c < 96000) (h0 : 0 ≤ bit) (h1 : bit ≤ 1) :
    Calls Tryz.prog 98 #[.pointer (some ⟨b, 0, none⟩), .int .i64 bit] w fun e w' => ∃ g' L' cap', e = .returned (.tuple #[]) ∧ Wr w' base b g' L' cap' (bstep xs c bit) ((c : Int) + 1) ∧ Below base w w' := by
  have hl := hW.len
  have hi := hI.1
  by_cases h8 : c % 8 = 0
  · obtain rfl : L = c / 8 := by omega
    refine (putBit_none bit b g (c / 8) cap xs c base w hW hI (by omega) hc h0 h1).mono ?_
    rintro e w1 ⟨g', cap', h⟩
    exact ⟨g', _, cap', h⟩
  · obtain rfl : L = c / 8 + 1 := by omega
    refine (putBit_some bit b g (c / 8) cap xs c base w hW hI (by omega) (by omega) h8 hc h0 h1).mono ?_
    rintro e w1 h
    exact ⟨g, _, cap, h⟩

set_option maxHeartbeats 400000 in
theorem writerOut (b g L cap : Nat) (xs : List Int) (c : Int) (base : Nat) (w : World) (hW : Wr w base b g L cap xs c) :
    Calls Tryz.prog 60 #[.pointer (some ⟨b, 0, none⟩)] w fun e w' => e = .returned (.agg #[.string (strOfNums xs), .int .i64 c]) ∧ Below w.heap.size w w' := by
  have c0 := hW.c0
  have c1 := hW.c1
  have hblt := hW.lt
  have hO := hW.2.1
  have kc := fun (o : Obj) => own_string (P := Tryz.prog) xs 86 9 Tryz.underlying86 Tryz.underlying5 Tryz.underlying9 (hO.alloc o)
  have kd := fun (o : Obj) => own_string (P := Tryz.prog) xs 86 9 Tryz.underlying86 Tryz.underlying5 Tryz.underlying9 ((hO.alloc o).keep (w' := (w.alloc o).drew) rfl)
  clear hW hO
  go_enter Tryz.func60, Tryz.ntmps60
  go_wp2
  go_region
  all_goals
    go_wp2
    exact bodyPost_ret (v := .agg #[.string (strOfNums xs), .int .i64 c]) (by simp [results, Tryz.results60, go_sem]) rfl ⟨rfl, (bstart _ _).drew⟩
end Go.Proofs.YtbcnlggkoidmmabGreatDoor

namespace Go.Proofs.YtbcnlggkoidmmabGreatDoor
open Go.RowKit Go.Joins OutMath PutMath

set_option maxHeartbeats 800000 in
theorem putCode_any (x : Int) (n : Nat) (b g0 L0 cap0 : Nat) (xs : List Int) (c : Nat) (base : Nat) (w : World) (hW : Wr w base b g0 L0 cap0 xs c) (hI : Inv xs c) (h4 : 0 ≤ x) (hx : x ≤ 16777216) (hn : n ≤ 24) (hc : c + n ≤ 96000) :
    Calls Tryz.prog 83 #[.pointer (some ⟨b, 0, none⟩), .int .i64 x, .int .i64 n] w fun e w' => ∃ g' L' cap', e = .returned (.tuple #[]) ∧ Wr w' base b g' L' cap' (puts xs c (fun j => bitOf x (n - 1 - j)) n) ((c + n : Nat) : Int) ∧ Below base w w' := by
  have HW : Hid (Wr w base b g0 L0 cap0 xs c) := hW
  have HI : Hid (Inv xs c) := hI
  clear hW hI
  go_enter Tryz.func83, Tryz.ntmps83
  go_wp2_with fail
  go_loopw [6] (fun i w' => ∃ j g L cap : Nat, j ≤ n ∧ i = .int .i64 ((n : Int) - 1 - j) ∧ Hid (Wr w' base b g L cap (puts xs c (fun j => bitOf x (n - 1 - j)) j) ((c + j : Nat) : Int)) ∧ Below base w w') (fun i _ => (intOf i + 1).toNat)
  case atStart => exact ⟨0, g0, L0, cap0, Nat.zero_le _, by simp, HW, Below.refl _ _⟩
  case round =>
    obtain ⟨j, g, L, cap, hj, rfl, hWr, hB⟩ := hrel
    have hIj := inv_puts (f := fun j => bitOf x (n - 1 - j)) HI.out (fun k => bitOf_01 _ _) j
    have HIj : Hid (Inv (puts xs c (fun j => bitOf x (n - 1 - j)) j) (c + j)) := hIj
    clear hIj
    by_cases hlt : j < n
    · have hbw := bit_shr x (n - 1 - j) h4 hx (by omega)
      have h01 := bitOf_01 x (n - 1 - j)
      have en : ((n : Int) - 1 - (j : Int)).toNat = n - 1 - j := by omega
      go_wp2_with fail
      refine (putBit_any _ b g L cap _ (c + j) base _ hWr.out HIj.out (by omega) h01.1 h01.2).mono ?_
      rintro e w3 ⟨g', L', cap', rfl, hW3, hb3⟩
      have HW3 : Hid (Wr w3 base b g' L' cap' (puts xs c (fun j => bitOf x (n - 1 - j)) (j + 1)) ((c + (j + 1) : Nat) : Int)) := by
        have e : ((c + j : Nat) : Int) + 1 = ((c + (j + 1) : Nat) : Int) := by omega
        rw [← e]
        exact hW3
      clear hW3
      go_wp2_with fail
      go_roundw
      case rel => exact ⟨j + 1, g', L', cap', by omega, by go_num, HW3, hB.trans hb3⟩
      case measure => simp [intOf]; omega
    · obtain rfl : n = j := by omega
      go_wp2_with fail
      go_end0
      exact ⟨g, L, cap, rfl, hWr.out, hB⟩

end Go.Proofs.YtbcnlggkoidmmabGreatDoor

namespace Go.Proofs.YtbcnlggkoidmmabGreatDoor
open Go.RowKit Go.Joins OutMath PutMath

set_option maxHeartbeats 800000 in
theorem putNumber_any (x : Int) (n : Nat) (b g0 L0 cap0 : Nat) (xs : List Int) (c : Nat) (base : Nat) (w : World) (hW : Wr w base b g0 L0 cap0 xs c) (hI : Inv xs c) (h4 : 0 ≤ x) (hx : x ≤ 16777216) (hn : n ≤ 24) (hc : c + n ≤ 96000) :
    Calls Tryz.prog 84 #[.pointer (some ⟨b, 0, none⟩), .int .i64 x, .int .i64 n] w fun e w' => ∃ g' L' cap', e = .returned (.tuple #[]) ∧ Wr w' base b g' L' cap' (puts xs c (fun j => bitOf x j) n) ((c + n : Nat) : Int) ∧ Below base w w' := by
  have HW : Hid (Wr w base b g0 L0 cap0 xs c) := hW
  have HI : Hid (Inv xs c) := hI
  clear hW hI
  go_enter Tryz.func84, Tryz.ntmps84
  go_wp2_with fail
  go_loopw [8] (fun i w' => ∃ j g L cap : Nat, j ≤ n ∧ i = .int .i64 (j : Int) ∧ Hid (Wr w' base b g L cap (puts xs c (fun j => bitOf x j) j) ((c + j : Nat) : Int)) ∧ Below base w w') (fun i _ => ((n : Int) - intOf i).toNat)
  case atStart => exact ⟨0, g0, L0, cap0, Nat.zero_le _, by simp, HW, Below.refl _ _⟩
  case round =>
    obtain ⟨j, g, L, cap, hj, rfl, hWr, hB⟩ := hrel
    have hIj := inv_puts (f := fun j => bitOf x j) HI.out (fun k => bitOf_01 _ _) j
    have HIj : Hid (Inv (puts xs c (fun j => bitOf x j) j) (c + j)) := hIj
    clear hIj
    by_cases hlt : j < n
    · have hbw := bit_shr x j h4 hx (by omega)
      have h01 := bitOf_01 x j
      go_wp2_with fail
      refine (putBit_any _ b g L cap _ (c + j) base _ hWr.out HIj.out (by omega) h01.1 h01.2).mono ?_
      rintro e w3 ⟨g', L', cap', rfl, hW3, hb3⟩
      have HW3 : Hid (Wr w3 base b g' L' cap' (puts xs c (fun j => bitOf x j) (j + 1)) ((c + (j + 1) : Nat) : Int)) := by
        have e : ((c + j : Nat) : Int) + 1 = ((c + (j + 1) : Nat) : Int) := by omega
        rw [← e]
        exact hW3
      clear hW3
      go_wp2_with fail
      go_roundw
      case rel => exact ⟨j + 1, g', L', cap', by omega, by go_num, HW3, hB.trans hb3⟩
      case measure => simp [intOf]; omega
    · obtain rfl : n = j := by omega
      go_wp2_with fail
      go_end0
      exact ⟨g, L, cap, rfl, hWr.out, hB⟩

end Go.Proofs.YtbcnlggkoidmmabGreatDoor
