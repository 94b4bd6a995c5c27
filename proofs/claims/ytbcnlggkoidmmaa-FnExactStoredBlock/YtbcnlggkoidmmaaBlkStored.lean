/-
  The walk of the model's StoredBlock.
-/
import Derived.Test.YtbcnlggkoidmmaaRows
import Derived.Test.YtbcnlggkoidmmaaBase
import Derived.Test.YtbcnlggkoidmmaaOutMath
import Derived.Test.YtbcnlggkoidmmaaBlockMath
import Derived.Test.YtbcnlggkoidmmaaBlkPut
import Derived.Test.YtbcnlggkoidmmaaBlkAns
import Derived.Test.YtbcnlggkoidmmaaBlkHead
import Derived.Test.YtbcnlggkoidmmaaFillWalks
import Derived.WalkKit
import Derived.ProofKit
import Derived.WalkLawsBesides
import Derived.Below
import Derived.Lib.SmallJoins
namespace Go.Proofs.Ytbcnlggkoidmmaa
open Go.RowKit Go.Joins OutMath PutMath BitsMath BlockMath

/-- A block under way: the record in block B, the answer's own cell behind the first box. -/
def BlkEnd (w X : World) (B : Nat) (st : Option (ByteArray × Nat)) : Prop := Below w.heap.size w X ∧ X.heap[w.heap.size + 1]? = some (.cells #[.string ⟨#[]⟩, .int .i64 0] 37 (0, 0)) ∧ OS X B st ∧ w.heap.size + 1 ≠ B ∧ w.heap.size ≤ B
theorem BlkEnd.put {w X Y : World} {B : Nat} {st st' : Option (ByteArray × Nat)} (h : BlkEnd w X B st) (hO : OS Y B st') (hg : X.grownBy Y (some B)) : BlkEnd w Y B st' :=
  ⟨h.1.grown hg h.1.size (fun k hk => by cases hk; exact h.2.2.2.2), (hg.block _ (block_lt h.2.1) (fun e => h.2.2.2.1 (Option.some.inj e))).trans h.2.1, hO, h.2.2.2⟩

set_option maxRecDepth 100000 in
set_option maxHeartbeats 3200000 in
theorem specStored (s : ByteArray) (c : Int) (t : ByteArray) (last : Bool) (w : World) (hs : s.size ≤ maxLen) (hc1 : -9223372036854775808 ≤ c) (hc2 : c ≤ 9223372036854775807) (ht : t.size ≤ 1048576) :
    Calls Try.prog 16 #[.agg #[.string s, .int .i64 c], .string t, .bool last] w fun e w' => e = .returned (blkAns (storedOut s c t last)) ∧ Below w.heap.size w w' := by
  by_cases h26 : t.size ≤ 2600
  · have d0 : decide ((2600 : Int) < (t.size : Int)) = false := decide_eq_false (by omega)
    have d0' : decide (2600 < t.size) = false := decide_eq_false (by omega)
    have hH := fun w => specHead s c 0 last w hs hc1 hc2 (by omega)
    rw [stored_parts h26]
    generalize ((outSt s c).bind fun o => bitsOut o (headBits 0 last)) = st at hH ⊢
    have m0 : (0 : Int) ≤ 65535 - (t.size : Int) := by omega
    have HP1 : Hid ((t.size : Int) < p2 16) := by show (t.size : Int) < p2 16; rw [show p2 16 = 65536 by simp [p2]]; omega
    have HP2 : Hid (65535 - (t.size : Int) < p2 16) := by show 65535 - (t.size : Int) < p2 16; rw [show p2 16 = 65536 by simp [p2]]; omega
    cases st with
    | none =>
      show Calls _ _ _ _ fun e w' => e = .returned (blkAns none) ∧ Below w.heap.size w w'
      simp only [Option.isNone_none] at hH
      go_enter Try.func16, Try.ntmps16
      go_wp2_with fail
      refine (hH _).mono ?_
      rintro e w1 ⟨s1, c1, rfl, hst, hB1⟩
      clear hH
      have hR : w1.heap[w.heap.size + 1]? = some (.cells #[.string ⟨#[]⟩, .int .i64 0] 37 (0, 0)) := lay_called hB1 (heap_second2 w _ _)
      have hW1 : Below w.heap.size w w1 := bnext (bal (bstart w (.cells #[.string s, .int .i64 c] 37)) (.cells #[.string ⟨#[]⟩, .int .i64 0] 37)) hB1
      have hRl := block_lt hR
      have HE : Hid (BlkEnd w (w1.alloc (.cells #[.string s1, .int .i64 c1, .bool true] 61)) w1.heap.size none) := ⟨bal hW1 _, ((bstart w1 _).block _ hRl).trans hR, ⟨s1, c1, heap_alloc_new w1 _, fun o ho => by cases ho⟩, by omega, hW1.size⟩
      clear hst hB1 hR hW1 hRl
      go_wp2_with fail
      refine (l09Put_any _ none _ 16 false _ HE.out.2.2.1 (by omega) HP1.out (by omega)).mono ?_
      rintro e w2 ⟨rfl, hO2, hg2⟩
      have HE2 : Hid (BlkEnd w w2 w1.heap.size none) := HE.out.put hO2 hg2
      clear HE hO2 hg2
      go_wp2_with fail
      refine (l09Put_any _ none _ 16 false _ HE2.out.2.2.1 m0 HP2.out (by omega)).mono ?_
      rintro e w3 ⟨rfl, hO3, hg3⟩
      have HE3 : Hid (BlkEnd w w3 w1.heap.size none) := HE2.out.put hO3 hg3
      clear HE2 hO3 hg3
      obtain ⟨s3, c3, hb3, _⟩ := HE3.out.2.2.1
      simp only [Option.isNone_none] at hb3
      obtain ⟨e0, e1, e2⟩ := hb3.cells
      have hr := HE3.out.2.1
      have r0 : w3.cell? ⟨w.heap.size + 1, 0, none⟩ = some (.string ⟨#[]⟩) := (cell_of_block hr 0).trans rfl
      have r1 : w3.cell? ⟨w.heap.size + 1, 1, none⟩ = some (.int .i64 0) := (cell_of_block hr 1).trans rfl
      have rf : ∀ q, w3.frozen? ⟨w.heap.size + 1, q, none⟩ = false := fun q => by simp [World.frozen?, hr]
      have rl := block_lt hr
      have bl := hb3.lt
      clear hr hb3
      go_wp2_with fail
      refine bodyPost_ret (v := .tuple #[.agg #[.string ⟨#[]⟩, .int .i64 0], .bool false]) ?_ rfl ⟨rfl, two_below HE3.out.1 (Nat.le_succ _) _ _⟩
      simp [results, Try.results16, go_sem, r0, r1]
    | some o =>
      obtain ⟨s0, c0⟩ := o
      show Calls _ _ _ _ fun e w' => e = .returned (blkAns (bitsOut (s0, c0) (storedBits c0 t))) ∧ Below w.heap.size w w'
      simp only [Option.isNone_some] at hH
      go_enter Try.func16, Try.ntmps16
      go_wp2_with fail
      refine (hH _).mono ?_
      rintro e w1 ⟨s1, c1, rfl, hst, hB1⟩
      clear hH
      obtain ⟨rfl, rfl, hout⟩ := hst _ rfl
      have hfit := fits_of_outB s1 (c0 : Int) hout
      have hs1 : s1.size ≤ 12000 := hfit.1
      have hc0 : c0 ≤ 96000 := by have := hfit.2.2.1; omega
      have HSE := hid_of (stored_end (t := t) hout)
      have HO8 : Hid (outB s1 ((8 * s1.size : Nat) : Int) = true) := (bitsOut_right (fill_bits hout) (fillBits_01 c0)).1
      have hfl := fun w => specFill_yes s1 (c0 : Int) w (by unfold maxLen; omega) (by omega) (by omega) hout
      have hR : w1.heap[w.heap.size + 1]? = some (.cells #[.string ⟨#[]⟩, .int .i64 0] 37 (0, 0)) := lay_called hB1 (heap_second2 w _ _)
      have hW1 : Below w.heap.size w w1 := bnext (bal (bstart w (.cells #[.string s, .int .i64 c] 37)) (.cells #[.string ⟨#[]⟩, .int .i64 0] 37)) hB1
      have hRl := block_lt hR
      have HE : Hid (BlkEnd w (w1.alloc (.cells #[.string s1, .int .i64 (c0 : Int), .bool false] 61)) w1.heap.size (some (s1, c0))) := ⟨bal hW1 _, ((bstart w1 _).block _ hRl).trans hR, ⟨s1, (c0 : Int), heap_alloc_new w1 _, fun o ho => by cases ho; exact ⟨rfl, rfl, hout⟩⟩, by omega, hW1.size⟩
      have HB0 : Hid (OB (w1.alloc (.cells #[.string s1, .int .i64 (c0 : Int), .bool false] 61)) w1.heap.size s1 (c0 : Int) false) := heap_alloc_new w1 _
      clear hst hB1 hR hW1 hRl hfit hout
      go_wp2_with fail
      refine (hfl _).mono ?_
      rintro e w2 ⟨rfl, hB2⟩
      clear hfl
      have hb2 := HB0.out.called hB2
      obtain ⟨f0, f1, f2⟩ := hb2.cells
      have ff := hb2.free
      have fl := hb2.lt
      have e8 : ((8 * s1.size : Nat) : Int) = 8 * (s1.size : Int) := by omega
      have HE2 : Hid (BlkEnd w ((w2.setCell ⟨w1.heap.size, 0, none⟩ (.string s1)).setCell ⟨w1.heap.size, 1, none⟩ (.int .i64 (8 * (s1.size : Int)))) w1.heap.size (some (s1, 8 * s1.size))) := by
        refine HE.out.put ⟨s1, 8 * (s1.size : Int), hb2.out s1 _, fun o ho => by cases ho; exact ⟨rfl, e8.symm, HO8.out⟩⟩ ?_
        exact ((bgrown_called hB2 _).trans (bgrown_cell _ _ 0 _)).trans (bgrown_cell _ _ 1 _)
      clear HE HB0 hb2 hB2 e8
      go_wp2_with fail
      refine (l09Put_any _ _ _ 16 false _ HE2.out.2.2.1 (by omega) HP1.out (by omega)).mono ?_
      rintro e w2' ⟨rfl, hO2, hg2⟩
      have HE2' := hid_of (HE2.out.put hO2 hg2)
      clear HE2 hO2 hg2 f0 f1 f2 ff fl
      go_wp2_with fail
      refine (l09Put_any _ _ _ 16 false _ HE2'.out.2.2.1 m0 HP2.out (by omega)).mono ?_
      rintro e w3 ⟨rfl, hO3, hg3⟩
      have HE3 : Hid (BlkEnd w w3 w1.heap.size (storedNums s1 t)) := HE2'.out.put hO3 hg3
      clear HE2' hO3 hg3
      cases h3 : storedNums s1 t with
      | none =>
        have HA : Hid (bitsOut (s1, c0) (storedBits c0 t) = none) := by
          have := HSE.out
          rw [h3] at this
          exact this
        rw [h3] at HE3
        clear h3 HSE
        obtain ⟨s3, c3, hb3, _⟩ := HE3.out.2.2.1
        simp only [Option.isNone_none] at hb3
        obtain ⟨e0, e1, e2⟩ := hb3.cells
        have hr := HE3.out.2.1
        have r0 : w3.cell? ⟨w.heap.size + 1, 0, none⟩ = some (.string ⟨#[]⟩) := (cell_of_block hr 0).trans rfl
        have r1 : w3.cell? ⟨w.heap.size + 1, 1, none⟩ = some (.int .i64 0) := (cell_of_block hr 1).trans rfl
        have rf : ∀ q, w3.frozen? ⟨w.heap.size + 1, q, none⟩ = false := fun q => by simp [World.frozen?, hr]
        have rl := block_lt hr
        have bl := hb3.lt
        clear hr hb3
        go_wp2_with fail
        refine bodyPost_ret (v := .tuple #[.agg #[.string ⟨#[]⟩, .int .i64 0], .bool false]) ?_ rfl ⟨by rw [HA.out]; rfl, two_below HE3.out.1 (Nat.le_succ _) _ _⟩
        simp [results, Try.results16, go_sem, r0, r1]
      | some o3 =>
        obtain ⟨s3, c3⟩ := o3
        have HA : Hid (bitsOut (s1, c0) (storedBits c0 t) = if s3.size + t.size ≤ 12000 then some (s3 ++ t, c3 + 8 * t.size) else none) := by
          have := HSE.out
          rw [h3] at this
          exact this
        rw [h3] at HE3
        clear h3 HSE
        obtain ⟨s3', c3', hb3, hst3⟩ := HE3.out.2.2.1
        obtain ⟨rfl, rfl, hout3⟩ := hst3 _ rfl
        have hfit := fits_of_outB s3' (c3 : Int) hout3
        have hs3 : s3'.size ≤ 12000 := hfit.1
        have hc3 : c3 ≤ 96000 := by have := hfit.2.2.1; omega
        simp only [Option.isNone_some] at hb3
        obtain ⟨e0, e1, e2⟩ := hb3.cells
        have hr := HE3.out.2.1
        have r0 : w3.cell? ⟨w.heap.size + 1, 0, none⟩ = some (.string ⟨#[]⟩) := (cell_of_block hr 0).trans rfl
        have r1 : w3.cell? ⟨w.heap.size + 1, 1, none⟩ = some (.int .i64 0) := (cell_of_block hr 1).trans rfl
        have rf : ∀ q, w3.frozen? ⟨w.heap.size + 1, q, none⟩ = false := fun q => by simp [World.frozen?, hr]
        have rl := block_lt hr
        have bl := hb3.lt
        clear hr hb3
        clear hst3 hout3 hfit
        by_cases hr : s3'.size + t.size ≤ 12000
        · have d3 : decide ((12000 : Int) < (s3'.size : Int) + (t.size : Int)) = false := decide_eq_false (by omega)
          have HA' : Hid (bitsOut (s1, c0) (storedBits c0 t) = some (s3' ++ t, c3 + 8 * t.size)) := HA.out.trans (if_pos hr)
          clear HA
          go_wp2_with fail
          refine bodyPost_ret (v := .tuple #[.agg #[.string (s3' ++ t), .int .i64 ((c3 : Int) + 8 * (t.size : Int))], .bool true]) ?_ rfl ⟨by rw [HA'.out, show blkAns (some (s3' ++ t, c3 + 8 * t.size)) = .tuple #[.agg #[.string (s3' ++ t), .int .i64 ((c3 + 8 * t.size : Nat) : Int)], .bool true] from rfl, show ((c3 + 8 * t.size : Nat) : Int) = (c3 : Int) + 8 * (t.size : Int) by omega], two_below HE3.out.1 (Nat.le_succ _) _ _⟩
          simp [results, Try.results16, go_sem, r0, r1]
        · have d3 : decide ((12000 : Int) < (s3'.size : Int) + (t.size : Int)) = true := decide_eq_true (by omega)
          have HA' : Hid (bitsOut (s1, c0) (storedBits c0 t) = none) := HA.out.trans (if_neg hr)
          clear HA
          go_wp2_with fail
          refine bodyPost_ret (v := .tuple #[.agg #[.string ⟨#[]⟩, .int .i64 0], .bool false]) ?_ rfl ⟨by rw [HA'.out]; rfl, two_below HE3.out.1 (Nat.le_succ _) _ _⟩
          simp [results, Try.results16, go_sem, r0, r1]
  · have d0 : decide ((2600 : Int) < (t.size : Int)) = true := decide_eq_true (by omega)
    have d0' : decide (2600 < t.size) = true := decide_eq_true (by omega)
    have e0 : storedOut s c t last = none := if_neg h26
    rw [e0]
    have HB := hid_of (bal (bstart w (.cells #[.string s, .int .i64 c] 37)) (.cells #[.string ⟨#[]⟩, .int .i64 0] 37))
    go_enter Try.func16, Try.ntmps16
    go_wp2_with fail
    refine bodyPost_ret (v := .tuple #[.agg #[.string ⟨#[]⟩, .int .i64 0], .bool false]) ?_ rfl ⟨rfl, HB.out⟩
    simp [results, Try.results16, go_sem]
end Go.Proofs.Ytbcnlggkoidmmaa
