/-
  The walk of the law FnBestBlock, over what the program's functions answer.
  The walk of the program's BestBlock.
  The last byte of a text, read.
  The walks of the program's test of a right Out.
  The walk of the program's numberPart.
-/
import Derived.Test.YtbcnlggkoidmmaaGreatDoorRows
import Derived.Test.YtbcnlggkoidmmaaGreatDoorPk01
import Derived.Test.YtbcnlggkoidmmaaGreatDoorPk02
import Derived.Test.YtbcnlggkoidmmaaGreatDoorPk03
import Derived.Test.YtbcnlggkoidmmaaGreatDoorPk04
import Derived.Test.YtbcnlggkoidmmaaGreatDoorPk19
import Derived.Test.YtbcnlggkoidmmaaGreatDoorPk22
import Derived.Test.YtbcnlggkoidmmaaGreatDoorPk24
import Derived.Test.YtbcnlggkoidmmaaGreatDoorPk07
import Derived.WalkKit
import Derived.ProofKit
import Derived.Lib.SmallJoins
import Derived.WalkLawsBesides
import Derived.Below
import Derived.RegionTactic
import Derived.Deep.QuietTactic
import Derived.BigQuiet
namespace Go.Proofs.YtbcnlggkoidmmaaGreatDoor
open Go.RowKit Go.Joins TokMath TrimMath InfMath StandMath

theorem run_bytes9 : ∀ {L : List Tok} {O F : List Int}, Bytes O → run O L = some F → Bytes F
  | [], _, _, hO, h => by cases h; exact hO
  | t :: R, O, F, hO, h => by
    unfold run at h
    split at h
    · rename_i q
      exact run_bytes9 (app_bytes q.1 hO) h
    · cases h
theorem run_right9 : ∀ {L : List Tok} {O F : List Int}, run O L = some F → ∀ t ∈ L, TokRight t
  | [], _, _, _ => fun t ht => by cases ht
  | t :: R, O, F, h => by
    unfold run at h
    split at h
    · rename_i q
      intro u hu
      rcases List.mem_cons.mp hu with rfl | hu
      · exact q.1
      · exact run_right9 h u hu
    · cases h
/-- An Out that lies in a block. -/
def BxO (X : World) (b : Nat) (t : ByteArray) (n : Nat) : Prop := X.heap[b]? = some (.cells #[.string t, .int .i64 (n : Int)] 31 (0, 0))
theorem BxO.called {X Y : World} {b n : Nat} {t : ByteArray} (h : BxO X b t n) (hb : Below X.heap.size X Y) : BxO Y b t n := (hb.block _ (block_lt h)).trans h

set_option maxRecDepth 100000 in
set_option maxHeartbeats 6400000 in
theorem FnBestBlock_at (hBe : BestBlockAnswer) (hSt : StoredAnswer) (hFi : FixedAnswer) (hWv : WovenAnswer) (a : Option Addr) (len cap : Nat) (w : World) (hD : CodeAt w w.heap.size a len) (hlen : (len : Int) ≤ 1048576) (hG : OrderG w) :
    Calls Tryz.prog 4 #[.slice a len cap] w fun e w' => e = .returned (.bool true) ∧ Below w.heap.size w w' := by
  have HD := hid_of hD
  have HG := hid_of hG
  have HA := hid_of (And.intro hBe (And.intro hSt (And.intro hFi hWv)))
  clear hD hG hBe hSt hFi hWv
  go_enter Tryz.func4, Tryz.ntmps4
  go_wp2_with fail
  refine (big_no a len cap _ hlen).mono ?_
  rintro e w0 ⟨rfl, rfl⟩
  go_wp2_with fail
  refine (draw_drawTokens a len cap w0.heap.size w0 HD.out (by omega) (Nat.le_refl _)).mono ?_
  rintro e w1 ⟨k, hk, g, cp, L, F, rfl, hkl, hO, hB, hR, hF⟩
  have hTC : TCame w1 (some ⟨g, 0, none⟩) L.length (fun j => L.getD j (0, 0, 0)) := by
    subst hkl
    obtain ⟨a', c', hv, _, _, _, hT, _⟩ := tcame_of_own hO rfl
    cases hv
    exact hT
  have HT := hid_of hTC
  have HB := hid_of hB
  have HKL := hid_of hkl
  have hF12 : F.length ≤ 12000 := by omega
  have HBY := hid_of (run_bytes9 (fun x hx => by cases hx) hR)
  have HRR := hid_of (run_right9 hR)
  have HRUN := hid_of hR
  have h0 : ∀ w, TCame w (some ⟨g, 0, none⟩) L.length (fun j => L.getD j (0, 0, 0)) → Calls Tryz.prog 9 #[.string ⟨#[]⟩, .slice (some ⟨g, 0, none⟩) k cp] w fun e w' => e = .returned (.tuple #[.string (strOfNums F), .bool true]) ∧ Below w.heap.size w w' := fun w hC => by
    rw [HKL.out]
    refine (specExpand ⟨#[]⟩ (some ⟨g, 0, none⟩) cp L w hC (by rw [← HKL.out]; omega) (show 0 ≤ 1048576 by omega)).mono ?_
    intro e w' h
    have e1 : expandOf ⟨#[]⟩ L = some F := by
      unfold expandOf
      rw [if_pos (show (⟨#[]⟩ : ByteArray).size ≤ 12000 by decide)]
      have := expand_run (F := F) 0 HRUN.out (by omega)
      rw [List.drop_zero] at this
      exact this
    rw [e1] at h
    exact ⟨h.2, h.1⟩
  have HH0 := hid_of h0
  have hsz : (strOfNums F).size = F.length := strOfNums_size F
  clear hO hB hR hkl hTC h0
  go_wp2_with fail
  refine (HH0.out w1 HT.out).mono ?_
  rintro e w2 ⟨rfl, hB2⟩
  have HB2 := hid_of (bnext HB.out hB2)
  have HT2 := hid_of (HT.out.called hB2)
  clear hB2 HB HT HH0 HD
  by_cases hF26 : F.length ≤ 2600
  · obtain ⟨o1, o2, o3, o, p, Ty, q1, q2, q3, q4, hle, hos, hinf, hp⟩ := best_unpack (L := L) (F := F) ⟨by rw [← HKL.out]; omega, HRR.out⟩ (by rw [← HKL.out]; exact hk) HRUN.out hF26 HBY.out
    have dt : decide ((2600 : Int) < ((strOfNums F).size : Int)) = false := decide_eq_false (by omega)
    have dt' : decide (2600 < (strOfNums F).size) = false := decide_eq_false (by omega)
    have HBC : Hid (∀ W, TCame W (some ⟨g, 0, none⟩) L.length (fun j => L.getD j (0, 0, 0)) → OrderG W → Calls Tryz.prog 16 #[.agg #[.string ⟨#[]⟩, .int .i64 0], .string (strOfNums F), .slice (some ⟨g, 0, none⟩) k cp, .bool true] W fun e w' => e = .returned (.tuple #[.agg #[.string o.1, .int .i64 (o.2 : Int)], .bool true]) ∧ Below W.heap.size W w') := fun W hC hG => by
      have h := HA.out.1 ⟨#[]⟩ 0 (strOfNums F) (some ⟨g, 0, none⟩) cp L true W (show 0 ≤ 1048576 by omega) (by omega) (by omega) (by omega) hC (by rw [← HKL.out]; omega) hG
      rw [q4, ← HKL.out] at h
      exact h
    have HSC : Hid (∀ W : World, Calls Tryz.prog 10 #[.agg #[.string ⟨#[]⟩, .int .i64 0], .string (strOfNums F), .bool true] W fun e w' => e = .returned (.tuple #[.agg #[.string o1.1, .int .i64 (o1.2 : Int)], .bool true]) ∧ Below W.heap.size W w') := fun W => by
      have h := HA.out.2.1 ⟨#[]⟩ 0 (strOfNums F) true W (show 0 ≤ 1048576 by omega) (by omega) (by omega) (by omega)
      rw [q1] at h
      exact h
    have HFC : Hid (∀ W, TCame W (some ⟨g, 0, none⟩) L.length (fun j => L.getD j (0, 0, 0)) → Calls Tryz.prog 11 #[.agg #[.string ⟨#[]⟩, .int .i64 0], .slice (some ⟨g, 0, none⟩) k cp, .bool true] W fun e w' => e = .returned (.tuple #[.agg #[.string o2.1, .int .i64 (o2.2 : Int)], .bool true]) ∧ Below W.heap.size W w') := fun W hC => by
      have h := HA.out.2.2.1 ⟨#[]⟩ 0 (some ⟨g, 0, none⟩) cp L true W (show 0 ≤ 1048576 by omega) (by omega) (by omega) hC (by rw [← HKL.out]; omega)
      rw [q2, ← HKL.out] at h
      exact h
    have HWC : Hid (∀ W, TCame W (some ⟨g, 0, none⟩) L.length (fun j => L.getD j (0, 0, 0)) → OrderG W → Calls Tryz.prog 12 #[.agg #[.string ⟨#[]⟩, .int .i64 0], .slice (some ⟨g, 0, none⟩) k cp, .bool true] W fun e w' => e = .returned (.tuple #[.agg #[.string o3.1, .int .i64 (o3.2 : Int)], .bool true]) ∧ Below W.heap.size W w') := fun W hC hG => by
      have h := HA.out.2.2.2 ⟨#[]⟩ 0 (some ⟨g, 0, none⟩) cp L true W (show 0 ≤ 1048576 by omega) (by omega) (by omega) hC (by rw [← HKL.out]; omega) hG
      rw [q3, ← HKL.out] at h
      exact h
    have HIC : Hid (∀ W : World, Calls Tryz.prog 17 #[.string o.1, .int .i64 12000] W fun e w' => e = .returned (.tuple #[.string (strOfNums F), .int .i64 (((p + 7) / 8 : Nat) : Int), .int .i64 0]) ∧ Below W.heap.size W w') := fun W => specInflate_ok o.1 12000 F p Ty W hos hinf
    have d1 : decide ((o.2 : Int) ≤ (o1.2 : Int)) = true := decide_eq_true (by omega)
    have d2 : decide ((o.2 : Int) ≤ (o2.2 : Int)) = true := decide_eq_true (by omega)
    have d3 : decide ((o.2 : Int) ≤ (o3.2 : Int)) = true := decide_eq_true (by omega)
    obtain ⟨ot, on⟩ := o
    obtain ⟨ot1, on1⟩ := o1
    obtain ⟨ot2, on2⟩ := o2
    obtain ⟨ot3, on3⟩ := o3
    simp only [] at HBC HSC HFC HWC HIC d1 d2 d3
    have e1 : decide (on ≤ on1) = true := decide_eq_true (by have := of_decide_eq_true d1; omega)
    have e2 : decide (on ≤ on2) = true := decide_eq_true (by have := of_decide_eq_true d2; omega)
    have e3 : decide (on ≤ on3) = true := decide_eq_true (by have := of_decide_eq_true d3; omega)
    clear q1 q2 q3 q4 hle hos hinf hp HA HBY HRR HRUN hF26 hF12 hF hsz
    generalize strOfNums F = T at *
    go_wp2_with fail
    refine (HBC.out w2 HT2.out (HG.out.below HB2.out HG.out.1)).mono ?_
    rintro e w3 ⟨rfl, b3⟩
    have HB3 := hid_of (bal (bnext HB2.out b3) (.cells #[.string ot, .int .i64 (on : Int)] 31))
    have HT3 := hid_of ((HT2.out.called b3).called (bstart w3 (.cells #[.string ot, .int .i64 (on : Int)] 31)))
    have X3 : Hid (BxO (w3.alloc (.cells #[.string ot, .int .i64 (on : Int)] 31)) w3.heap.size ot on) := heap_alloc_new w3 _
    clear b3 HB2 HT2 HBC
    go_wp2_with fail
    generalize w3.alloc _ = v3 at HB3 HT3 X3 ⊢
    generalize w3.heap.size = b6 at X3 ⊢
    refine (HSC.out v3).mono ?_
    rintro e w4 ⟨rfl, b4⟩
    have HB4 := hid_of (bal (bnext HB3.out b4) (.cells #[.string ot1, .int .i64 (on1 : Int)] 31))
    have HT4 := hid_of ((HT3.out.called b4).called (bstart w4 (.cells #[.string ot1, .int .i64 (on1 : Int)] 31)))
    have X4 := hid_of ((X3.out.called b4).called (bstart w4 (.cells #[.string ot1, .int .i64 (on1 : Int)] 31)))
    have Y4 : Hid (BxO (w4.alloc (.cells #[.string ot1, .int .i64 (on1 : Int)] 31)) w4.heap.size ot1 on1) := heap_alloc_new w4 _
    clear b4 HB3 HT3 X3 HSC
    go_wp2_with fail
    generalize w4.alloc _ = v4 at HB4 HT4 X4 Y4 ⊢
    generalize w4.heap.size = b8 at Y4 ⊢
    refine (HFC.out v4 HT4.out).mono ?_
    rintro e w5 ⟨rfl, b5⟩
    have HB5 := hid_of (bal (bnext HB4.out b5) (.cells #[.string ot2, .int .i64 (on2 : Int)] 31))
    have HT5 := hid_of ((HT4.out.called b5).called (bstart w5 (.cells #[.string ot2, .int .i64 (on2 : Int)] 31)))
    have X5 := hid_of ((X4.out.called b5).called (bstart w5 (.cells #[.string ot2, .int .i64 (on2 : Int)] 31)))
    have Y5 := hid_of ((Y4.out.called b5).called (bstart w5 (.cells #[.string ot2, .int .i64 (on2 : Int)] 31)))
    have Z5 : Hid (BxO (w5.alloc (.cells #[.string ot2, .int .i64 (on2 : Int)] 31)) w5.heap.size ot2 on2) := heap_alloc_new w5 _
    clear b5 HB4 HT4 X4 Y4 HFC
    go_wp2_with fail
    generalize w5.alloc _ = v5 at HB5 HT5 X5 Y5 Z5 ⊢
    generalize w5.heap.size = b10 at Z5 ⊢
    refine (HWC.out v5 HT5.out (HG.out.below HB5.out HG.out.1)).mono ?_
    rintro e w6 ⟨rfl, b66⟩
    have HB6 := hid_of (bal (bnext HB5.out b66) (.cells #[.string ot3, .int .i64 (on3 : Int)] 31))
    have X6 := hid_of ((X5.out.called b66).called (bstart w6 (.cells #[.string ot3, .int .i64 (on3 : Int)] 31)))
    have Y6 := hid_of ((Y5.out.called b66).called (bstart w6 (.cells #[.string ot3, .int .i64 (on3 : Int)] 31)))
    have Z6 := hid_of ((Z5.out.called b66).called (bstart w6 (.cells #[.string ot3, .int .i64 (on3 : Int)] 31)))
    have V6 : Hid (BxO (w6.alloc (.cells #[.string ot3, .int .i64 (on3 : Int)] 31)) w6.heap.size ot3 on3) := heap_alloc_new w6 _
    have hx6 := X5.out.called b66
    have x0 : w6.cell? ⟨b6, 0, none⟩ = some (.string ot) := (cell_of_block hx6 0).trans rfl
    have xl := block_lt hx6
    clear b66 hx6 HB5 HT5 X5 Y5 Z5 HWC HG
    go_wp2_with fail
    generalize w6.alloc _ = v6 at HB6 X6 Y6 Z6 V6 ⊢
    generalize w6.heap.size = b12 at V6 ⊢
    refine (HIC.out v6).mono ?_
    rintro e w7 ⟨rfl, b7⟩
    have HB7 := hid_of (bnext HB6.out b7)
    have y1 : w7.cell? ⟨b6, 1, none⟩ = some (.int .i64 (on : Int)) := (cell_of_block (X6.out.called b7) 1).trans rfl
    have y2 : w7.cell? ⟨b8, 1, none⟩ = some (.int .i64 (on1 : Int)) := (cell_of_block (Y6.out.called b7) 1).trans rfl
    have y3 : w7.cell? ⟨b10, 1, none⟩ = some (.int .i64 (on2 : Int)) := (cell_of_block (Z6.out.called b7) 1).trans rfl
    have y4 : w7.cell? ⟨b12, 1, none⟩ = some (.int .i64 (on3 : Int)) := (cell_of_block (V6.out.called b7) 1).trans rfl
    have l1 := block_lt (X6.out.called b7)
    have l2 := block_lt (Y6.out.called b7)
    have l3 := block_lt (Z6.out.called b7)
    have l4 := block_lt (V6.out.called b7)
    clear b7 HB6 X6 Y6 Z6 V6 HIC x0 xl
    go_wp2_with fail
    go_ret
    exact ⟨rfl, HB7.out⟩
  · have dt : decide ((2600 : Int) < ((strOfNums F).size : Int)) = true := decide_eq_true (by omega)
    have dt' : decide (2600 < (strOfNums F).size) = true := decide_eq_true (by omega)
    clear HA HG HBY HRR HRUN hsz
    generalize strOfNums F = T at *
    go_wp2_with fail
    go_ret
    exact ⟨rfl, HB2.out⟩
theorem FnBestBlock_over (hBe : BestBlockAnswer) (hSt : StoredAnswer) (hFi : FixedAnswer) (hWv : WovenAnswer) (a : Option Addr) (len cap : Nat) (zs : List Int) (w : World) (hr : IsRow .u8 w a len cap zs) (hG : OrderG w) :
    Calls Tryz.prog 4 #[.slice a len cap] w fun e w' => e = .returned (.bool true) ∧ Below w.heap.size w w' := by
  obtain ⟨hC, hl, hc⟩ := codeAt_of_row hr
  unfold maxLen at hc
  by_cases h : (len : Int) ≤ 1048576
  · exact FnBestBlock_at hBe hSt hFi hWv a len cap w hC h hG
  · have d : (1048576 : Int) < len := by omega
    clear hr hC hBe hSt hFi hWv hG
    go_enter Tryz.func4, Tryz.ntmps4
    go_wp2_with fail
    refine (big_yes a len cap _ d (by omega)).mono ?_
    rintro e w1 ⟨rfl, rfl⟩
    go_wp2_with fail
    go_ret
    exact ⟨rfl, Below.refl _ _⟩
end Go.Proofs.YtbcnlggkoidmmaaGreatDoor

namespace Go.Proofs.YtbcnlggkoidmmaaGreatDoor
open Go.RowKit Go.Joins OutMath TokMath WovenMath

/-- The best so far in block p, whether there is one in block q. -/
def Bst (w : World) (q p : Nat) (o : Option (ByteArray × Nat)) : Prop := w.heap[q]? = some (.cells #[.bool (blkB o)] 4 (0, 0)) ∧ w.heap[p]? = some (.cells #[.string (blkS o), .int .i64 (blkN o)] 31 (0, 0))
theorem Bst.called {w w' : World} {q p : Nat} {o : Option (ByteArray × Nat)} (h : Bst w q p o) (hb : Below w.heap.size w w') : Bst w' q p o := ⟨(hb.block _ (block_lt h.1)).trans h.1, (hb.block _ (block_lt h.2)).trans h.2⟩
/-- Nothing else is turned. -/
def But2 (w w' : World) (q p : Nat) : Prop := w'.os = w.os ∧ w'.tape = w.tape ∧ w'.output = w.output ∧ w.heap.size ≤ w'.heap.size ∧ ∀ g, g < w.heap.size → g ≠ q → g ≠ p → w'.heap[g]? = w.heap[g]?
theorem But2.below {w w' : World} {q p B : Nat} (h : But2 w w' q p) (hq : B ≤ q) (hp : B ≤ p) (hB : B ≤ w.heap.size) : Below B w w' := ⟨h.1, h.2.1, h.2.2.1, h.2.2.2.1, fun k hk => h.2.2.2.2 k (by omega) (by omega) (by omega)⟩

section
variable (q p : Nat) (o n : Option (ByteArray × Nat)) (w : World)
set_option maxRecDepth 100000 in
set_option maxHeartbeats 1600000 in
theorem offer_any (h : Bst w q p o) (hqp : q ≠ p) :
    Calls Tryz.prog 42 #[.agg #[.string (blkS n), .int .i64 (blkN n)], .bool (blkB n), .pointer (some ⟨q, 0, none⟩), .pointer (some ⟨p, 0, none⟩)] w fun e w' => e = .returned (.tuple #[]) ∧ Bst w' q p (better o n) ∧ But2 w w' q p := by
  have HB0 : Hid (∀ ob, But2 w (w.alloc ob) q p) := fun ob => ⟨rfl, rfl, rfl, by simp, fun g hg _ _ => (bstart w ob).block g hg⟩
  have HS0 : Hid (∀ ob, Bst (w.alloc ob) q p o) := fun ob => h.called (bstart w ob)
  have hql := block_lt h.1
  have hpl := block_lt h.2
  have q0 : w.cell? ⟨q, 0, none⟩ = some (.bool (blkB o)) := (cell_of_block h.1 0).trans rfl
  have p0 : w.cell? ⟨p, 0, none⟩ = some (.string (blkS o)) := (cell_of_block h.2 0).trans rfl
  have p1 : w.cell? ⟨p, 1, none⟩ = some (.int .i64 (blkN o)) := (cell_of_block h.2 1).trans rfl
  have qf : ∀ j, w.frozen? ⟨q, j, none⟩ = false := fun j => by simp [World.frozen?, h.1]
  have pf : ∀ j, w.frozen? ⟨p, j, none⟩ = false := fun j => by simp [World.frozen?, h.2]
  have HST : Hid (∀ (X : World) (bs : ByteArray) (bn : Nat), Bst X q p o → But2 w X q p → Bst (((X.setCell ⟨p, 0, none⟩ (.string bs)).setCell ⟨p, 1, none⟩ (.int .i64 (bn : Int))).setCell ⟨q, 0, none⟩ (.bool true)) q p (some (bs, bn)) ∧ But2 w (((X.setCell ⟨p, 0, none⟩ (.string bs)).setCell ⟨p, 1, none⟩ (.int .i64 (bn : Int))).setCell ⟨q, 0, none⟩ (.bool true)) q p) := by
    intro X bs bn hX hb
    refine ⟨⟨?_, ?_⟩, ⟨hb.1, hb.2.1, hb.2.2.1, by have := hb.2.2.2.1; simp; omega, fun g hg h1 h2 => ?_⟩⟩
    · have hx : ((X.setCell ⟨p, 0, none⟩ (.string bs)).setCell ⟨p, 1, none⟩ (.int .i64 (bn : Int))).heap[q]? = some (.cells #[.bool (blkB o)] 4 (0, 0)) := (Below.heap_setCell _ _ _ _ hqp).trans ((Below.heap_setCell _ _ _ _ hqp).trans hX.1)
      have := block_setCell (i := 0) hx (.bool true)
      show _ = some (Obj.cells #[.bool true] 4 (0, 0))
      simpa using this
    · exact (Below.heap_setCell _ _ _ _ (Ne.symm hqp)).trans (two_set hX.2 _ _)
    · exact (Below.heap_setCell _ _ _ _ h1).trans ((Below.heap_setCell _ _ _ _ h2).trans ((Below.heap_setCell _ _ _ _ h2).trans (hb.2.2.2.2 g hg h1 h2)))
  have HOLD := hid_of h
  clear h
  cases n with
  | none =>
    have HE : Hid (better o none = o) := by cases o <;> rfl
    simp only [blkB, blkS, blkN]
    clear HST HOLD
    go_enter Tryz.func42, Tryz.ntmps42
    go_wp2_with fail
    go_end0
    exact ⟨rfl, by rw [HE.out]; exact HS0.out _, HB0.out _⟩
  | some y =>
    obtain ⟨ys, yn⟩ := y
    have HFIN : Hid (∀ ob, Bst ((((w.setCell ⟨p, 0, none⟩ (.string ys)).setCell ⟨p, 1, none⟩ (.int .i64 (yn : Int))).setCell ⟨q, 0, none⟩ (.bool true)).alloc ob) q p (some (ys, yn)) ∧ But2 w ((((w.setCell ⟨p, 0, none⟩ (.string ys)).setCell ⟨p, 1, none⟩ (.int .i64 (yn : Int))).setCell ⟨q, 0, none⟩ (.bool true)).alloc ob) q p) := by
      intro ob
      have h1 := HST.out w ys yn HOLD.out ⟨rfl, rfl, rfl, Nat.le_refl _, fun _ _ _ _ => rfl⟩
      generalize ((w.setCell ⟨p, 0, none⟩ (.string ys)).setCell ⟨p, 1, none⟩ (.int .i64 (yn : Int))).setCell ⟨q, 0, none⟩ (.bool true) = Z at h1 ⊢
      refine ⟨h1.1.called (bstart _ _), h1.2.1, h1.2.2.1, h1.2.2.2.1, Nat.le_trans h1.2.2.2.2.1 (by simp), fun g hg e1 e2 => ((bstart Z ob).block g (Nat.lt_of_lt_of_le hg h1.2.2.2.2.1)).trans (h1.2.2.2.2.2 g hg e1 e2)⟩
    clear HST HOLD
    cases o with
    | none =>
      have HE : Hid (better none (some (ys, yn)) = some (ys, yn)) := rfl
      simp only [blkB, blkS, blkN] at q0 p0 p1 ⊢
      clear HS0 HB0
      go_enter Tryz.func42, Tryz.ntmps42
      go_wp2_with fail
      go_end0
      exact ⟨rfl, by rw [HE.out]; exact (HFIN.out _).1, (HFIN.out _).2⟩
    | some x =>
      obtain ⟨xs, xn⟩ := x
      simp only [blkB, blkS, blkN] at q0 p0 p1 ⊢
      by_cases hlt : yn < xn
      · have HE : Hid (better (some (xs, xn)) (some (ys, yn)) = some (ys, yn)) := if_pos hlt
        have dl : decide ((yn : Int) < (xn : Int)) = true := decide_eq_true (by omega)
        have dl2 : decide (yn < xn) = true := decide_eq_true hlt
        clear HS0 HB0
        go_enter Tryz.func42, Tryz.ntmps42
        go_wp2_with fail
        go_end0
        exact ⟨rfl, by rw [HE.out]; exact (HFIN.out _).1, (HFIN.out _).2⟩
      · have HE : Hid (better (some (xs, xn)) (some (ys, yn)) = some (xs, xn)) := if_neg hlt
        have dl : decide ((yn : Int) < (xn : Int)) = false := decide_eq_false (by omega)
        have dl2 : decide (yn < xn) = false := decide_eq_false hlt
        clear HFIN
        go_enter Tryz.func42, Tryz.ntmps42
        go_wp2_with fail
        go_end0
        exact ⟨rfl, by rw [HE.out]; exact HS0.out _, HB0.out _⟩
end
/-- The boxes of the call: the Out that it is handed, its answer's; the best so far. -/
def BbX (w X : World) (s : ByteArray) (c : Int) (o : Option (ByteArray × Nat)) : Prop := Below w.heap.size w X ∧ X.heap[w.heap.size]? = some (.cells #[.string s, .int .i64 c] 31 (0, 0)) ∧ X.heap[w.heap.size + 1]? = some (.cells #[.string ⟨#[]⟩, .int .i64 0] 31 (0, 0)) ∧ Bst X (w.heap.size + 3) (w.heap.size + 2) o
theorem BbX.called {w X Y : World} {s : ByteArray} {c : Int} {o : Option (ByteArray × Nat)} (h : BbX w X s c o) (hb : Below X.heap.size X Y) : BbX w Y s c o :=
  ⟨bnext h.1 hb, (hb.block _ (block_lt h.2.1)).trans h.2.1, (hb.block _ (block_lt h.2.2.1)).trans h.2.2.1, h.2.2.2.called hb⟩
theorem BbX.offered {w X Y : World} {s : ByteArray} {c : Int} {o o' : Option (ByteArray × Nat)} (h : BbX w X s c o) (hB : Bst Y (w.heap.size + 3) (w.heap.size + 2) o') (hb : But2 X Y (w.heap.size + 3) (w.heap.size + 2)) : BbX w Y s c o' :=
  ⟨h.1.trans (hb.below (by omega) (by omega) h.1.size), (hb.2.2.2.2 _ (block_lt h.2.1) (by omega) (by omega)).trans h.2.1, (hb.2.2.2.2 _ (block_lt h.2.2.1) (by omega) (by omega)).trans h.2.2.1, hB⟩
theorem four_blocks (w : World) (A B C D : Obj) : ((((w.alloc A).alloc B).alloc C).alloc D).heap[w.heap.size]? = some A ∧ ((((w.alloc A).alloc B).alloc C).alloc D).heap[w.heap.size + 1]? = some B ∧ ((((w.alloc A).alloc B).alloc C).alloc D).heap[w.heap.size + 2]? = some C ∧ ((((w.alloc A).alloc B).alloc C).alloc D).heap[w.heap.size + 3]? = some D := by
  have s1 : (w.alloc A).heap.size = w.heap.size + 1 := by simp
  have s2 : ((w.alloc A).alloc B).heap.size = w.heap.size + 2 := by simp
  have s3 : (((w.alloc A).alloc B).alloc C).heap.size = w.heap.size + 3 := by simp
  refine ⟨?_, ?_, ?_, ?_⟩
  · rw [(bstart _ D).block _ (by omega), (bstart _ C).block _ (by omega), (bstart _ B).block _ (by omega)]
    exact heap_alloc_new w A
  · rw [(bstart _ D).block _ (by omega), (bstart _ C).block _ (by omega), ← s1]
    exact heap_alloc_new (w.alloc A) B
  · rw [(bstart _ D).block _ (by omega), ← s2]
    exact heap_alloc_new ((w.alloc A).alloc B) C
  · rw [← s3]
    exact heap_alloc_new (((w.alloc A).alloc B).alloc C) D

set_option maxRecDepth 100000 in
set_option maxHeartbeats 3200000 in
theorem best_answer (hS : StoredAnswer) (hF : FixedAnswer) (hWv : WovenAnswer) : BestBlockAnswer := by
  intro s c t a cp L last w hs hc1 hc2 ht hC hL hG
  have HX : Hid (BbX w ((((w.alloc (.cells #[.string s, .int .i64 c] 31)).alloc (.cells #[.string ⟨#[]⟩, .int .i64 0] 31)).alloc (.cells #[.string ⟨#[]⟩, .int .i64 0] 31)).alloc (.cells #[.bool false] 4)) s c none) := by
    obtain ⟨q1, q2, q3, q4⟩ := four_blocks w (.cells #[.string s, .int .i64 c] 31) (.cells #[.string ⟨#[]⟩, .int .i64 0] 31) (.cells #[.string ⟨#[]⟩, .int .i64 0] 31) (.cells #[.bool false] 4)
    exact ⟨bal (bal (bal (bstart _ _) _) _) _, q1, q2, q4, q3⟩
  have HC := hid_of hC
  have HG := hid_of hG
  have HS : Hid (∀ W : World, Calls Tryz.prog 10 #[.agg #[.string s, .int .i64 c], .string t, .bool last] W fun e w' => e = .returned (.tuple #[.agg #[.string (blkS (storedOut s c t last)), .int .i64 (blkN (storedOut s c t last))], .bool (blkB (storedOut s c t last))]) ∧ Below W.heap.size W w') := fun W => by
    rw [← blkAns_parts]
    exact hS s c t last W hs hc1 hc2 ht
  have HF : Hid (∀ W : World, TCame W a L.length (fun j => L.getD j (0, 0, 0)) → Calls Tryz.prog 11 #[.agg #[.string s, .int .i64 c], .slice a L.length cp, .bool last] W fun e w' => e = .returned (.tuple #[.agg #[.string (blkS (fixedOut s c L last)), .int .i64 (blkN (fixedOut s c L last))], .bool (blkB (fixedOut s c L last))]) ∧ Below W.heap.size W w') := fun W hC => by
    rw [← blkAns_parts]
    exact hF s c a cp L last W hs hc1 hc2 hC hL
  have HW : Hid (∀ W : World, TCame W a L.length (fun j => L.getD j (0, 0, 0)) → OrderG W → Calls Tryz.prog 12 #[.agg #[.string s, .int .i64 c], .slice a L.length cp, .bool last] W fun e w' => e = .returned (.tuple #[.agg #[.string (blkS (wovenOut s c L last)), .int .i64 (blkN (wovenOut s c L last))], .bool (blkB (wovenOut s c L last))]) ∧ Below W.heap.size W w') := fun W hC hG => by
    rw [← blkAns_parts]
    exact hWv s c a cp L last W hs hc1 hc2 hC hL hG
  have HOFF : Hid (∀ (o n : Option (ByteArray × Nat)) (W : World), Bst W (w.heap.size + 3) (w.heap.size + 2) o → Calls Tryz.prog 42 #[.agg #[.string (blkS n), .int .i64 (blkN n)], .bool (blkB n), .pointer (some ⟨w.heap.size + 3, 0, none⟩), .pointer (some ⟨w.heap.size + 2, 0, none⟩)] W fun e w' => e = .returned (.tuple #[]) ∧ Bst w' (w.heap.size + 3) (w.heap.size + 2) (better o n) ∧ But2 W w' (w.heap.size + 3) (w.heap.size + 2)) := fun o n W h => offer_any _ _ o n W h (by omega)
  have HE : Hid (bestOut s c t L last = better (better (better none (storedOut s c t last)) (fixedOut s c L last)) (wovenOut s c L last)) := rfl
  clear hS hF hWv hC hG
  generalize storedOut s c t last = o1 at *
  generalize fixedOut s c L last = o2 at *
  generalize wovenOut s c L last = o3 at *
  have hmf : ∀ (fn : Fn) (first cap : Array Value) (w : World), (Instr.makeFunc fn first cap).run Tryz.prog w = .ok (.func fn first cap) w := fun _ _ _ _ => rfl
  go_enter Tryz.func16, Tryz.ntmps16
  go_wp2_with fail
  generalize (((w.alloc _).alloc _).alloc _).alloc _ = X at HX ⊢
  obtain ⟨x0, x1, xl⟩ : X.cell? ⟨w.heap.size, 0, none⟩ = some (.string s) ∧ X.cell? ⟨w.heap.size, 1, none⟩ = some (.int .i64 c) ∧ w.heap.size < X.heap.size := ⟨(cell_of_block HX.out.2.1 0).trans rfl, (cell_of_block HX.out.2.1 1).trans rfl, block_lt HX.out.2.1⟩
  go_wp2_with fail
  refine (HS.out X).mono ?_
  rintro e w1 ⟨rfl, b1⟩
  have HX1 := hid_of (HX.out.called b1)
  clear b1 HX x0 x1 xl HS
  go_wp2_with fail
  refine (HOFF.out none o1 w1 HX1.out.2.2.2).mono ?_
  rintro e w2 ⟨rfl, hB2, hb2⟩
  have HX2 := hid_of (HX1.out.offered hB2 hb2)
  clear hB2 hb2 HX1
  obtain ⟨x0, x1, xl⟩ : w2.cell? ⟨w.heap.size, 0, none⟩ = some (.string s) ∧ w2.cell? ⟨w.heap.size, 1, none⟩ = some (.int .i64 c) ∧ w.heap.size < w2.heap.size := ⟨(cell_of_block HX2.out.2.1 0).trans rfl, (cell_of_block HX2.out.2.1 1).trans rfl, block_lt HX2.out.2.1⟩
  go_wp2_with fail
  refine (HF.out w2 (HC.out.called HX2.out.1)).mono ?_
  rintro e w3 ⟨rfl, b3⟩
  have HX3 := hid_of (HX2.out.called b3)
  clear b3 HX2 x0 x1 xl HF
  go_wp2_with fail
  refine (HOFF.out _ o2 w3 HX3.out.2.2.2).mono ?_
  rintro e w4 ⟨rfl, hB4, hb4⟩
  have HX4 := hid_of (HX3.out.offered hB4 hb4)
  clear hB4 hb4 HX3
  obtain ⟨x0, x1, xl⟩ : w4.cell? ⟨w.heap.size, 0, none⟩ = some (.string s) ∧ w4.cell? ⟨w.heap.size, 1, none⟩ = some (.int .i64 c) ∧ w.heap.size < w4.heap.size := ⟨(cell_of_block HX4.out.2.1 0).trans rfl, (cell_of_block HX4.out.2.1 1).trans rfl, block_lt HX4.out.2.1⟩
  go_wp2_with fail
  refine (HW.out w4 (HC.out.called HX4.out.1) (HG.out.below HX4.out.1 HG.out.1)).mono ?_
  rintro e w5 ⟨rfl, b5⟩
  have HX5 := hid_of (HX4.out.called b5)
  clear b5 HX4 x0 x1 xl HW HC HG
  go_wp2_with fail
  refine (HOFF.out _ o3 w5 HX5.out.2.2.2).mono ?_
  rintro e w6 ⟨rfl, hB6, hb6⟩
  have HX6 := hid_of (HX5.out.offered hB6 hb6)
  clear hB6 hb6 HX5 HOFF
  rw [← HE.out] at HX6
  obtain ⟨oo, hoo⟩ : ∃ oo, oo = bestOut s c t L last := ⟨_, rfl⟩
  rw [← hoo] at HX6
  have HOO := hid_of hoo
  clear hoo
  obtain ⟨z1, z2, z3, z4⟩ := HX6.out
  have r0 : w6.cell? ⟨w.heap.size + 1, 0, none⟩ = some (.string ⟨#[]⟩) := (cell_of_block z3 0).trans rfl
  have r1 : w6.cell? ⟨w.heap.size + 1, 1, none⟩ = some (.int .i64 0) := (cell_of_block z3 1).trans rfl
  have rf : ∀ q, w6.frozen? ⟨w.heap.size + 1, q, none⟩ = false := fun q => by simp [World.frozen?, z3]
  have rl := block_lt z3
  have y0 : w6.cell? ⟨w.heap.size + 2, 0, none⟩ = some (.string (blkS oo)) := (cell_of_block z4.2 0).trans rfl
  have y1 : w6.cell? ⟨w.heap.size + 2, 1, none⟩ = some (.int .i64 (blkN oo)) := (cell_of_block z4.2 1).trans rfl
  have y2 : w6.cell? ⟨w.heap.size + 3, 0, none⟩ = some (.bool (blkB oo)) := (cell_of_block z4.1 0).trans rfl
  have yl := block_lt z4.2
  have yl2 := block_lt z4.1
  have HB6 := hid_of z1
  have HAN := hid_of (blkAns_parts oo)
  clear z1 z2 z3 z4 HX6 HE
  generalize blkS oo = bs at *
  generalize blkN oo = bn at *
  generalize blkB oo = bb at *
  go_wp2_with fail
  go_region
  all_goals
    go_wp2_with fail
    refine bodyPost_ret (v := .tuple #[.agg #[.string bs, .int .i64 bn], .bool bb]) ?_ rfl ⟨by rw [← HOO.out, HAN.out], ?_⟩
    · simp [results, Tryz.results16, go_sem, r0, r1]
    · first | exact two_below HB6.out (Nat.le_succ _) _ _ | exact (two_below HB6.out (Nat.le_succ _) _ _).drew
end Go.Proofs.YtbcnlggkoidmmaaGreatDoor

namespace Go.Proofs.YtbcnlggkoidmmaaGreatDoor
open Go.RowKit Go.Joins OutMath

theorem index_last (s : ByteArray) (h : 0 < s.size) (w : World) : (Instr.index 9 (.string s) (.int .i64 ((s.size : Int) - 1))).run Tryz.prog w = .ok (.int .u8 (last s)) w := by
  rw [run_index_string w 9 s .i64 _ Tryz.underlying9, dif_pos ⟨by omega, by omega⟩]
  have e : ((s.size : Int) - 1).toNat = s.size - 1 := by omega
  simp only [e]
  rw [last_at]

end Go.Proofs.YtbcnlggkoidmmaaGreatDoor

namespace Go.Proofs.YtbcnlggkoidmmaaGreatDoor
open Go.RowKit Go.Joins OutMath

theorem bytesFor_any (c : Int) (w : World) (h1 : 0 ≤ c) (h2 : c ≤ 96000) :
    Calls Tryz.prog 41 #[.int .i64 c] w fun e w' => e = .returned (.int .i64 ((c + 7) / 8)) ∧ w' = w := by
  go_enter Tryz.func41, Tryz.ntmps41
  go_wp2
  go_ret
  exact ⟨rfl, rfl⟩

set_option maxHeartbeats 400000 in
theorem implOut_fit0 (s : ByteArray) (c : Int) (w : World) (h : Fits s c) (hc : c % 8 = 0) :
    Calls Tryz.prog 60 #[.agg #[.string s, .int .i64 c]] w fun e w' => e = .returned (.bool true) ∧ Below w.heap.size w w' := by
  obtain ⟨h1, h2, h3, h4⟩ := h
  have d2 : decide (c < 0) = false := by simp; omega
  have d3 : decide ((96000 : Int) < c) = false := by simp; omega
  have d4 : ((s.size : Int) != (c + 7) / 8) = false := by simp; omega
  have d5 : (c % 8 == 0) = true := by simp; omega
  have ht : c.tmod 8 = c % 8 := Int.tmod_eq_emod_of_nonneg h2
  have hc9 : c ≤ 96000 := by omega
  clear h4 hc
  go_enter Tryz.func60, Tryz.ntmps60
  go_wp2
  go_quiet ((go_at_call 41; exact Calls.quiet_of_same (bytesFor_any _ _ (by omega) (by omega))))
  go_wp2
  go_ret
  exact ⟨rfl, (below_alloc1 _ _).trans (below_draws _ _ _)⟩

set_option maxHeartbeats 400000 in
theorem implOut_fit1 (s : ByteArray) (c : Int) (w : World) (h : Fits s c) (hc : ¬ c % 8 = 0) :
    Calls Tryz.prog 60 #[.agg #[.string s, .int .i64 c]] w fun e w' => e = .returned (.bool (lastOk s c)) ∧ Below w.heap.size w w' := by
  obtain ⟨h1, h2, h3, h4⟩ := h
  have d2 : decide (c < 0) = false := by simp; omega
  have d3 : decide ((96000 : Int) < c) = false := by simp; omega
  have d4 : ((s.size : Int) != (c + 7) / 8) = false := by simp; omega
  have d5 : (c % 8 == 0) = false := by simp; omega
  have d6 : 0 < s.size := by omega
  have ht : c.tmod 8 = c % 8 := Int.tmod_eq_emod_of_nonneg h2
  have hc9 : c ≤ 96000 := by omega
  have hix := index_last s d6
  have hlt := last_lt s
  have hlo := lastOk_div s c
  clear h4 hc
  go_enter Tryz.func60, Tryz.ntmps60
  go_wp2
  go_quiet ((go_at_call 41; exact Calls.quiet_of_same (bytesFor_any _ _ (by omega) (by omega))))
  have HL : Hid (lastOk s c = (((last s : Nat) : Int) / 2 ^ (c % 8).toNat == 0)) := hlo
  clear hlo
  go_wp2
  go_ret
  exact ⟨ret_b HL.out.symm, (below_alloc1 _ _).trans (below_draws _ _ _)⟩

set_option maxHeartbeats 400000 in
theorem implOut_no (s : ByteArray) (c : Int) (w : World) (hs : s.size ≤ maxLen) (hc1 : -9223372036854775808 ≤ c) (hc2 : c ≤ 9223372036854775807) (h : ¬ Fits s c) :
    Calls Tryz.prog 60 #[.agg #[.string s, .int .i64 c]] w fun e w' => e = .returned (.bool false) ∧ Below w.heap.size w w' := by
  unfold maxLen at hs
  unfold Fits at h
  by_cases h2 : c < 0
  · have d2 : decide (c < 0) = true := by simpa using h2
    clear h
    go_enter Tryz.func60, Tryz.ntmps60
    go_wp2
    go_quiet (fail)
    go_wp2
    go_ret
    exact ⟨rfl, (below_alloc1 _ _).trans (below_draws _ _ _)⟩
  · have d2 : decide (c < 0) = false := by simpa using h2
    by_cases h3 : (96000 : Int) < c
    · have d3 : decide ((96000 : Int) < c) = true := by simpa using h3
      clear h
      go_enter Tryz.func60, Tryz.ntmps60
      go_wp2
      go_quiet (fail)
      go_wp2
      go_ret
      exact ⟨rfl, (below_alloc1 _ _).trans (below_draws _ _ _)⟩
    · have d3 : decide ((96000 : Int) < c) = false := by simpa using h3
      have d4 : ((s.size : Int) != (c + 7) / 8) = true := by rw [bne_iff_ne]; omega
      clear h
      go_enter Tryz.func60, Tryz.ntmps60
      go_wp2
      go_quiet ((go_at_call 41; exact Calls.quiet_of_same (bytesFor_any _ _ (by omega) (by omega))))
      go_wp2
      go_ret
      exact ⟨rfl, (below_alloc1 _ _).trans (below_draws _ _ _)⟩

theorem implOut_any (s : ByteArray) (c : Int) (w : World) (hs : s.size ≤ maxLen) (hc1 : -9223372036854775808 ≤ c) (hc2 : c ≤ 9223372036854775807) :
    Calls Tryz.prog 60 #[.agg #[.string s, .int .i64 c]] w fun e w' => e = .returned (.bool (outB s c)) ∧ Below w.heap.size w w' := by
  by_cases h : Fits s c
  · by_cases hc : c % 8 = 0
    · rw [outB_fit0 s c h hc]; exact implOut_fit0 s c w h hc
    · rw [outB_fit1 s c h hc]; exact implOut_fit1 s c w h hc
  · rw [outB_no s c h]; exact implOut_no s c w hs hc1 hc2 h

end Go.Proofs.YtbcnlggkoidmmaaGreatDoor

namespace Go.Proofs.YtbcnlggkoidmmaaGreatDoor
open Go.RowKit Go.Joins

set_option maxHeartbeats 400000 in
theorem numberPart_any (x n : Int) (w : World) :
    Calls Tryz.prog 32 #[.int .i64 x, .int .i64 n] w fun e w' => e = .returned (.agg #[.int .i64 x, .int .i64 n, .bool false]) ∧ Below w.heap.size w w' := by
  go_enter Tryz.func32, Tryz.ntmps32
  go_wp2_with fail
  refine bodyPost_ret (v := .agg #[.int .i64 x, .int .i64 n, .bool false]) ?_ rfl ⟨rfl, ?_⟩
  · simp [results, Tryz.results32, go_sem]
  · exact bstart _ _
end Go.Proofs.YtbcnlggkoidmmaaGreatDoor
