/-
  The walk of the model's StoredBlock.
  Lists of pairs of numbers (Runs) in memory. Nothing here speaks of the program but the numbers of its types.
  The walks of what Runs tell in the document's model, and of lists of numbers of a call's own.
  A list of numbers of the call's own, as a slice that was handed back.
  Lists of parts (two numbers and a truth value each) in memory. Nothing here speaks of the program.
-/
import Derived.Test.YtbcnlggkoidmmabGreatDoorRows
import Derived.Test.YtbcnlggkoidmmabGreatDoorPk01
import Derived.Test.YtbcnlggkoidmmabGreatDoorPk02
import Derived.Test.YtbcnlggkoidmmabGreatDoorPk09
import Derived.Test.YtbcnlggkoidmmabGreatDoorPk08
import Derived.Test.YtbcnlggkoidmmabGreatDoorPk03
import Derived.WalkKit
import Derived.ProofKit
import Derived.WalkLawsBesides
import Derived.Below
import Derived.Lib.SmallJoins
import Derived.OwnWalk
import Derived.Deep.AppendLies
import Derived.Maps.AppendAt
import Derived.Laws.AppendOwnNone
import Derived.Deep.LoopGhost
namespace Go.Proofs.YtbcnlggkoidmmabGreatDoor
open Go.RowKit Go.Joins OutMath PutMath BitsMath BlockMath

/-- A block under way: the record in block B, the answer's own cell behind the first box. -/
def BlkEnd (w X : World) (B : Nat) (st : Option (ByteArray × Nat)) : Prop := Below w.heap.size w X ∧ X.heap[w.heap.size + 1]? = some (.cells #[.string ⟨#[]⟩, .int .i64 0] 27 (0, 0)) ∧ OS X B st ∧ w.heap.size + 1 ≠ B ∧ w.heap.size ≤ B
theorem BlkEnd.put {w X Y : World} {B : Nat} {st st' : Option (ByteArray × Nat)} (h : BlkEnd w X B st) (hO : OS Y B st') (hg : X.grownBy Y (some B)) : BlkEnd w Y B st' :=
  ⟨h.1.grown hg h.1.size (fun k hk => by cases hk; exact h.2.2.2.2), (hg.block _ (block_lt h.2.1) (fun e => h.2.2.2.1 (Option.some.inj e))).trans h.2.1, hO, h.2.2.2⟩

set_option maxRecDepth 100000 in
set_option maxHeartbeats 3200000 in
theorem specStored (s : ByteArray) (c : Int) (t : ByteArray) (last : Bool) (w : World) (hs : s.size ≤ maxLen) (hc1 : -9223372036854775808 ≤ c) (hc2 : c ≤ 9223372036854775807) (ht : t.size ≤ 1048576) :
    Calls Tryz.prog 12 #[.agg #[.string s, .int .i64 c], .string t, .bool last] w fun e w' => e = .returned (blkAns (storedOut s c t last)) ∧ Below w.heap.size w w' := by
  by_cases h26 : t.size ≤ 2600
  · have d0 : decide ((2600 : Int) < (t.size : Int)) = false := decide_eq_false (by omega)
    have d0' : decide (2600 < t.size) = false := decide_eq_false (by omega)
    have hH := fun w => specHead s c 0 last w hs hc1 hc2 (by omega)
    rw [stored_parts h26]
    generalize ((outSt s c).bind fun o => bitsOut o (headBits 0 last)) = st at hH ⊢
    have m0 : (0 : Int) ≤ 65535 - (t.size : Int) := by omega
    have HP1 : Hid ((t.size : Int) < p2 16) := by show (t.size : Int) < p2 16; rw [show p2 16 = 65536 by simp [p2]]; omega
    have HP2 : Hid (65535 - (t.size : Int) < p2 16) := by show 65535 - (t.size : Int) < p2 16; rw [show p2 16 = 65536 by simp [p2]]; omega
    cases st with
    | none =>
      show Calls _ _ _ _ fun e w' => e = .returned (blkAns none) ∧ Below w.heap.size w w'
      simp only [Option.isNone_none] at hH
      go_enter Tryz.func12, Tryz.ntmps12
      go_wp2_with fail
      refine (hH _).mono ?_
      rintro e w1 ⟨s1, c1, rfl, hst, hB1⟩
      clear hH
      have hR : w1.heap[w.heap.size + 1]? = some (.cells #[.string ⟨#[]⟩, .int .i64 0] 27 (0, 0)) := lay_called hB1 (heap_second2 w _ _)
      have hW1 : Below w.heap.size w w1 := bnext (bal (bstart w (.cells #[.string s, .int .i64 c] 27)) (.cells #[.string ⟨#[]⟩, .int .i64 0] 27)) hB1
      have hRl := block_lt hR
      have HE : Hid (BlkEnd w (w1.alloc (.cells #[.string s1, .int .i64 c1, .bool true] 45)) w1.heap.size none) := ⟨bal hW1 _, ((bstart w1 _).block _ hRl).trans hR, ⟨s1, c1, heap_alloc_new w1 _, fun o ho => by cases ho⟩, by omega, hW1.size⟩
      clear hst hB1 hR hW1 hRl
      go_wp2_with fail
      refine (l09Put_any _ none _ 16 false _ HE.out.2.2.1 (by omega) HP1.out (by omega)).mono ?_
      rintro e w2 ⟨rfl, hO2, hg2⟩
      have HE2 : Hid (BlkEnd w w2 w1.heap.size none) := HE.out.put hO2 hg2
      clear HE hO2 hg2
      go_wp2_with fail
      refine (l09Put_any _ none _ 16 false _ HE2.out.2.2.1 m0 HP2.out (by omega)).mono ?_
      rintro e w3 ⟨rfl, hO3, hg3⟩
      have HE3 : Hid (BlkEnd w w3 w1.heap.size none) := HE2.out.put hO3 hg3
      clear HE2 hO3 hg3
      obtain ⟨s3, c3, hb3, _⟩ := HE3.out.2.2.1
      simp only [Option.isNone_none] at hb3
      obtain ⟨e0, e1, e2⟩ := hb3.cells
      have hr := HE3.out.2.1
      have r0 : w3.cell? ⟨w.heap.size + 1, 0, none⟩ = some (.string ⟨#[]⟩) := (cell_of_block hr 0).trans rfl
      have r1 : w3.cell? ⟨w.heap.size + 1, 1, none⟩ = some (.int .i64 0) := (cell_of_block hr 1).trans rfl
      have rf : ∀ q, w3.frozen? ⟨w.heap.size + 1, q, none⟩ = false := fun q => by simp [World.frozen?, hr]
      have rl := block_lt hr
      have bl := hb3.lt
      clear hr hb3
      go_wp2_with fail
      refine bodyPost_ret (v := .tuple #[.agg #[.string ⟨#[]⟩, .int .i64 0], .bool false]) ?_ rfl ⟨rfl, two_below HE3.out.1 (Nat.le_succ _) _ _⟩
      simp [results, Tryz.results12, go_sem, r0, r1]
    | some o =>
      obtain ⟨s0, c0⟩ := o
      show Calls _ _ _ _ fun e w' => e = .returned (blkAns (bitsOut (s0, c0) (storedBits c0 t))) ∧ Below w.heap.size w w'
      simp only [Option.isNone_some] at hH
      go_enter Tryz.func12, Tryz.ntmps12
      go_wp2_with fail
      refine (hH _).mono ?_
      rintro e w1 ⟨s1, c1, rfl, hst, hB1⟩
      clear hH
      obtain ⟨rfl, rfl, hout⟩ := hst _ rfl
      have hfit := fits_of_outB s1 (c0 : Int) hout
      have hs1 : s1.size ≤ 12000 := hfit.1
      have hc0 : c0 ≤ 96000 := by have := hfit.2.2.1; omega
      have HSE := hid_of (stored_end (t := t) hout)
      have HO8 : Hid (outB s1 ((8 * s1.size : Nat) : Int) = true) := (bitsOut_right (fill_bits hout) (fillBits_01 c0)).1
      have hfl := fun w => specFill_yes s1 (c0 : Int) w (by unfold maxLen; omega) (by omega) (by omega) hout
      have hR : w1.heap[w.heap.size + 1]? = some (.cells #[.string ⟨#[]⟩, .int .i64 0] 27 (0, 0)) := lay_called hB1 (heap_second2 w _ _)
      have hW1 : Below w.heap.size w w1 := bnext (bal (bstart w (.cells #[.string s, .int .i64 c] 27)) (.cells #[.string ⟨#[]⟩, .int .i64 0] 27)) hB1
      have hRl := block_lt hR
      have HE : Hid (BlkEnd w (w1.alloc (.cells #[.string s1, .int .i64 (c0 : Int), .bool false] 45)) w1.heap.size (some (s1, c0))) := ⟨bal hW1 _, ((bstart w1 _).block _ hRl).trans hR, ⟨s1, (c0 : Int), heap_alloc_new w1 _, fun o ho => by cases ho; exact ⟨rfl, rfl, hout⟩⟩, by omega, hW1.size⟩
      have HB0 : Hid (OB (w1.alloc (.cells #[.string s1, .int .i64 (c0 : Int), .bool false] 45)) w1.heap.size s1 (c0 : Int) false) := heap_alloc_new w1 _
      clear hst hB1 hR hW1 hRl hfit hout
      go_wp2_with fail
      refine (hfl _).mono ?_
      rintro e w2 ⟨rfl, hB2⟩
      clear hfl
      have hb2 := HB0.out.called hB2
      obtain ⟨f0, f1, f2⟩ := hb2.cells
      have ff := hb2.free
      have fl := hb2.lt
      have e8 : ((8 * s1.size : Nat) : Int) = 8 * (s1.size : Int) := by omega
      have HE2 : Hid (BlkEnd w ((w2.setCell ⟨w1.heap.size, 0, none⟩ (.string s1)).setCell ⟨w1.heap.size, 1, none⟩ (.int .i64 (8 * (s1.size : Int)))) w1.heap.size (some (s1, 8 * s1.size))) := by
        refine HE.out.put ⟨s1, 8 * (s1.size : Int), hb2.out s1 _, fun o ho => by cases ho; exact ⟨rfl, e8.symm, HO8.out⟩⟩ ?_
        exact ((bgrown_called hB2 _).trans (bgrown_cell _ _ 0 _)).trans (bgrown_cell _ _ 1 _)
      clear HE HB0 hb2 hB2 e8
      go_wp2_with fail
      refine (l09Put_any _ _ _ 16 false _ HE2.out.2.2.1 (by omega) HP1.out (by omega)).mono ?_
      rintro e w2' ⟨rfl, hO2, hg2⟩
      have HE2' := hid_of (HE2.out.put hO2 hg2)
      clear HE2 hO2 hg2 f0 f1 f2 ff fl
      go_wp2_with fail
      refine (l09Put_any _ _ _ 16 false _ HE2'.out.2.2.1 m0 HP2.out (by omega)).mono ?_
      rintro e w3 ⟨rfl, hO3, hg3⟩
      have HE3 : Hid (BlkEnd w w3 w1.heap.size (storedNums s1 t)) := HE2'.out.put hO3 hg3
      clear HE2' hO3 hg3
      cases h3 : storedNums s1 t with
      | none =>
        have HA : Hid (bitsOut (s1, c0) (storedBits c0 t) = none) := by
          have := HSE.out
          rw [h3] at this
          exact this
        rw [h3] at HE3
        clear h3 HSE
        obtain ⟨s3, c3, hb3, _⟩ := HE3.out.2.2.1
        simp only [Option.isNone_none] at hb3
        obtain ⟨e0, e1, e2⟩ := hb3.cells
        have hr := HE3.out.2.1
        have r0 : w3.cell? ⟨w.heap.size + 1, 0, none⟩ = some (.string ⟨#[]⟩) := (cell_of_block hr 0).trans rfl
        have r1 : w3.cell? ⟨w.heap.size + 1, 1, none⟩ = some (.int .i64 0) := (cell_of_block hr 1).trans rfl
        have rf : ∀ q, w3.frozen? ⟨w.heap.size + 1, q, none⟩ = false := fun q => by simp [World.frozen?, hr]
        have rl := block_lt hr
        have bl := hb3.lt
        clear hr hb3
        go_wp2_with fail
        refine bodyPost_ret (v := .tuple #[.agg #[.string ⟨#[]⟩, .int .i64 0], .bool false]) ?_ rfl ⟨by rw [HA.out]; rfl, two_below HE3.out.1 (Nat.le_succ _) _ _⟩
        simp [results, Tryz.results12, go_sem, r0, r1]
      | some o3 =>
        obtain ⟨s3, c3⟩ := o3
        have HA : Hid (bitsOut (s1, c0) (storedBits c0 t) = if s3.size + t.size ≤ 12000 then some (s3 ++ t, c3 + 8 * t.size) else none) := by
          have := HSE.out
          rw [h3] at this
          exact this
        rw [h3] at HE3
        clear h3 HSE
        obtain ⟨s3', c3', hb3, hst3⟩ := HE3.out.2.2.1
        obtain ⟨rfl, rfl, hout3⟩ := hst3 _ rfl
        have hfit := fits_of_outB s3' (c3 : Int) hout3
        have hs3 : s3'.size ≤ 12000 := hfit.1
        have hc3 : c3 ≤ 96000 := by have := hfit.2.2.1; omega
        simp only [Option.isNone_some] at hb3
        obtain ⟨e0, e1, e2⟩ := hb3.cells
        have hr := HE3.out.2.1
        have r0 : w3.cell? ⟨w.heap.size + 1, 0, none⟩ = some (.string ⟨#[]⟩) := (cell_of_block hr 0).trans rfl
        have r1 : w3.cell? ⟨w.heap.size + 1, 1, none⟩ = some (.int .i64 0) := (cell_of_block hr 1).trans rfl
        have rf : ∀ q, w3.frozen? ⟨w.heap.size + 1, q, none⟩ = false := fun q => by simp [World.frozen?, hr]
        have rl := block_lt hr
        have bl := hb3.lt
        clear hr hb3
        clear hst3 hout3 hfit
        by_cases hr : s3'.size + t.size ≤ 12000
        · have d3 : decide ((12000 : Int) < (s3'.size : Int) + (t.size : Int)) = false := decide_eq_false (by omega)
          have HA' : Hid (bitsOut (s1, c0) (storedBits c0 t) = some (s3' ++ t, c3 + 8 * t.size)) := HA.out.trans (if_pos hr)
          clear HA
          go_wp2_with fail
          refine bodyPost_ret (v := .tuple #[.agg #[.string (s3' ++ t), .int .i64 ((c3 : Int) + 8 * (t.size : Int))], .bool true]) ?_ rfl ⟨by rw [HA'.out, show blkAns (some (s3' ++ t, c3 + 8 * t.size)) = .tuple #[.agg #[.string (s3' ++ t), .int .i64 ((c3 + 8 * t.size : Nat) : Int)], .bool true] from rfl, show ((c3 + 8 * t.size : Nat) : Int) = (c3 : Int) + 8 * (t.size : Int) by omega], two_below HE3.out.1 (Nat.le_succ _) _ _⟩
          simp [results, Tryz.results12, go_sem, r0, r1]
        · have d3 : decide ((12000 : Int) < (s3'.size : Int) + (t.size : Int)) = true := decide_eq_true (by omega)
          have HA' : Hid (bitsOut (s1, c0) (storedBits c0 t) = none) := HA.out.trans (if_neg hr)
          clear HA
          go_wp2_with fail
          refine bodyPost_ret (v := .tuple #[.agg #[.string ⟨#[]⟩, .int .i64 0], .bool false]) ?_ rfl ⟨by rw [HA'.out]; rfl, two_below HE3.out.1 (Nat.le_succ _) _ _⟩
          simp [results, Tryz.results12, go_sem, r0, r1]
  · have d0 : decide ((2600 : Int) < (t.size : Int)) = true := decide_eq_true (by omega)
    have d0' : decide (2600 < t.size) = true := decide_eq_true (by omega)
    have e0 : storedOut s c t last = none := if_neg h26
    rw [e0]
    have HB := hid_of (bal (bstart w (.cells #[.string s, .int .i64 c] 27)) (.cells #[.string ⟨#[]⟩, .int .i64 0] 27))
    go_enter Tryz.func12, Tryz.ntmps12
    go_wp2_with fail
    refine bodyPost_ret (v := .tuple #[.agg #[.string ⟨#[]⟩, .int .i64 0], .bool false]) ?_ rfl ⟨rfl, HB.out⟩
    simp [results, Tryz.results12, go_sem]
end Go.Proofs.YtbcnlggkoidmmabGreatDoor

namespace Go.Proofs.YtbcnlggkoidmmabGreatDoor
open Go.RowKit Go.Joins

theorem info_run : (Tryz.prog.info? 63).map (fun i => (i.zero, i.size, i.bytes)) = some (some (.agg #[.int .i64 0, .int .i64 0]), 2, 16) := by kernel_rfl

/-- The cells of runs. -/
def dcells : List (Int × Int) → List Value
  | [] => []
  | c :: l => .int .i64 c.1 :: .int .i64 c.2 :: dcells l
theorem dcells_length : ∀ l : List (Int × Int), (dcells l).length = l.length * 2
  | [] => rfl
  | c :: l => by
    show (dcells l).length + 1 + 1 = (l.length + 1) * 2
    rw [dcells_length l]
    omega
theorem dcells_app : ∀ xs ys : List (Int × Int), dcells (xs ++ ys) = dcells xs ++ dcells ys
  | [], ys => rfl
  | c :: l, ys => by
    show Value.int .i64 c.1 :: .int .i64 c.2 :: dcells (l ++ ys) = Value.int .i64 c.1 :: .int .i64 c.2 :: (dcells l ++ dcells ys)
    rw [dcells_app l ys]
theorem dcells_get0 : ∀ (l : List (Int × Int)) (i : Nat), i < l.length → (dcells l)[i * 2]? = some (.int .i64 (l.getD i (0, 0)).1)
  | [], i, h => by simp at h
  | c :: l, 0, _ => rfl
  | c :: l, i + 1, h => by
    rw [show (i + 1) * 2 = i * 2 + 1 + 1 by omega]
    show (dcells l)[i * 2]? = some (.int .i64 (l.getD i (0, 0)).1)
    exact dcells_get0 l i (by simpa using h)
theorem dcells_get1 : ∀ (l : List (Int × Int)) (i : Nat), i < l.length → (dcells l)[i * 2 + 1]? = some (.int .i64 ((l.getD i (0, 0)).2))
  | [], i, h => by simp at h
  | c :: l, 0, _ => rfl
  | c :: l, i + 1, h => by
    rw [show (i + 1) * 2 + 1 = i * 2 + 1 + 1 + 1 by omega]
    show (dcells l)[i * 2 + 1]? = some (.int .i64 ((l.getD i (0, 0)).2))
    exact dcells_get1 l i (by simpa using h)
theorem dcells_one : ∀ (l : List (Int × Int)), ∀ u ∈ dcells l, u.oneCell' = true
  | [], u, h => by cases h
  | c :: l, u, h => by
    rcases List.mem_cons.mp h with rfl | h
    · rfl
    · rcases List.mem_cons.mp h with rfl | h
      · rfl
      · exact dcells_one l u h

/-- The Runs L lie at a, in a block below B. -/
def RunsLie (w : World) (B : Nat) (a : Option Addr) (L : List (Int × Int)) : Prop :=
  L = [] ∨ ∃ g off, a = some ⟨g, off, none⟩ ∧ g < B ∧ g < w.heap.size ∧ ∀ j u, (dcells L)[j]? = some u → w.cell? ⟨g, off + j, none⟩ = some u
/-- A slice of them. -/
def Dst (w : World) (B : Nat) (a : Option Addr) (c : Nat) (L : List (Int × Int)) : Prop := L.length ≤ c ∧ (a = none → c = 0) ∧ RunsLie w B a L

section
variable {w w' : World} {B : Nat} {a : Option Addr} {c : Nat} {L : List (Int × Int)} {x : Int × Int}
theorem RunsLie.kept (h : RunsLie w B a L) (hb : Below B w w') : RunsLie w' B a L := by
  rcases h with h | ⟨g, off, ha, h1, h2, h3⟩
  · exact .inl h
  · exact .inr ⟨g, off, ha, h1, Nat.lt_of_lt_of_le h2 hb.size, fun j u hu => (hb.cell (p := ⟨g, off + j, none⟩) h1).trans (h3 j u hu)⟩
theorem Dst.kept (h : Dst w B a c L) (hb : Below B w w') : Dst w' B a c L := ⟨h.1, h.2.1, h.2.2.kept hb⟩
theorem RunsLie.mono {B' : Nat} (h : RunsLie w B a L) (hB : B ≤ B') : RunsLie w B' a L := by
  rcases h with h | ⟨g, off, ha, h1, h2, h3⟩
  · exact .inl h
  · exact .inr ⟨g, off, ha, by omega, h2, h3⟩
theorem Dst.mono {B' : Nat} (h : Dst w B a c L) (hB : B ≤ B') : Dst w B' a c L := ⟨h.1, h.2.1, h.2.2.mono hB⟩
theorem Dst.cons (h : Dst w B a c (x :: L)) : ∃ g off d, a = some ⟨g, off, none⟩ ∧ c = d + 1 ∧ L.length ≤ d ∧ g < B ∧ g < w.heap.size ∧ w.cell? ⟨g, off, none⟩ = some (.int .i64 x.1) ∧ w.cell? ⟨g, off + 1, none⟩ = some (.int .i64 x.2) ∧ Dst w B (some ⟨g, off + 2, none⟩) d L := by
  obtain ⟨h1, h2, h3⟩ := h
  rw [List.length_cons] at h1
  rcases h3 with h3 | ⟨g, off, ha, q1, q2, q3⟩
  · cases h3
  · refine ⟨g, off, c - 1, ha, by omega, by omega, q1, q2, q3 0 _ rfl, q3 1 _ rfl, by omega, (fun e => by cases e), .inr ⟨g, off + 2, rfl, q1, q2, fun j u hu => ?_⟩⟩
    have := q3 (j + 2) u hu
    rw [show off + 2 + j = off + (j + 2) by omega]
    exact this
theorem Dst.cell (h : Dst w B a c L) (hp : 0 < L.length) : ∃ g off, a = some ⟨g, off, none⟩ ∧ g < B ∧ g < w.heap.size ∧ ∀ i, i < L.length → w.cell? ⟨g, off + i * 2, none⟩ = some (.int .i64 (L.getD i (0, 0)).1) ∧ w.cell? ⟨g, off + (i * 2 + 1), none⟩ = some (.int .i64 ((L.getD i (0, 0)).2)) := by
  rcases h.2.2 with h3 | ⟨g, off, ha, q1, q2, q3⟩
  · rw [h3] at hp; simp at hp
  · exact ⟨g, off, ha, q1, q2, fun i hi => ⟨q3 _ _ (dcells_get0 L i hi), q3 _ _ (dcells_get1 L i hi)⟩⟩
theorem Dst.news (h : Dst w B a c L) : ∀ ad, a = some ad → ∀ j u, (dcells L)[j]? = some u → w.cell? (ad.add j) = some u := by
  intro ad e j u hu
  rcases h.2.2 with h3 | ⟨g, off, ha, q1, q2, q3⟩
  · rw [h3] at hu; cases hu
  · rw [ha] at e
    cases e
    rw [Addr.add_lit]
    exact q3 j u hu
/-- What a call owns is such a list. -/
theorem dst_of_own {S n : Nat} {v : Value} (h : w.ownsRow S 63 2 v n (dcells L)) (hn : n = L.length) : ∃ a c, v = .slice a L.length c ∧ Dst w w.heap.size a c L ∧ c ≤ maxLen := by
  subst hn
  rcases h.2 with ⟨rfl, h0⟩ | ⟨g, cap, cur, rfl, hb, hg, hc, hm, hs, ht⟩
  · exact ⟨none, 0, by rw [h0], ⟨by omega, fun _ => rfl, .inl (List.eq_nil_of_length_eq_zero h0)⟩, Nat.zero_le _⟩
  · refine ⟨_, cap, rfl, ⟨hc, (fun e => by cases e), .inr ⟨g, 0, rfl, block_lt hg, block_lt hg, fun j u hu => ?_⟩⟩, hm⟩
    have hj : j < L.length * 2 := by
      rcases Nat.lt_or_ge j (L.length * 2) with k | k
      · exact k
      · rw [List.getElem?_eq_none (by rw [dcells_length]; exact k)] at hu; cases hu
    rw [Nat.zero_add, h.cellAt j hj]
    exact hu
end

/-- 'append(v, ys...)' of runs. -/
theorem runs_append {w : World} {S : Nat} {v : Value} {xs ys : List (Int × Int)} {ops : Array Oper} {rest : List Oper} {o : Oper} {a : Act} {Q : Exit → Act → World → Prop} (hgd : o.guard = none) (s x : Operand)
    (ho : o.op = .call { callee := .builtin .append, args := #[s, x], argTypes := #[59, 59] }) (hs : a.eval s = v) (h : w.ownsRow S 63 2 v xs.length (dcells xs)) (ao : Option Addr) (m c : Nat) (hx : a.eval x = .slice ao m c) (hm : ys.length = m)
    (hc : ∀ ad, ao = some ad → ∀ j u, (dcells ys)[j]? = some u → w.cell? (ad.add j) = some u) (hn : ao = none → m = 0 ∧ c = 0)
    (h63 : xs.length + ys.length ≤ 100000) (hS : S ≤ w.heap.size)
    (hK : ∀ v' w', w'.ownsRow S 63 2 v' (xs ++ ys).length (dcells (xs ++ ys)) → w.grownBy w' v.ownBlock → wpList Tryz.prog ops Q rest (a.put o.dst v') w') : wpList Tryz.prog ops Q (o :: rest) a w := by
  obtain ⟨i0, hi0, hz0, hz1, hz2⟩ := info_parts info_run
  cases ao with
  | none =>
    obtain ⟨rfl, rfl⟩ := hn rfl
    obtain rfl : ys = [] := List.eq_nil_of_length_eq_zero hm
    refine wpList_append_own_none hgd s x _ ho S 63 i0 2 Tryz.underlying59 hi0 v _ _ hs h hx (hK v w (by simpa using h) ⟨rfl, rfl, rfl, Nat.le_refl _, fun _ _ _ => rfl⟩)
  | some ad =>
    refine wpList_append_own_at w hgd s x _ ho S 63 i0 _ 2 16 Tryz.underlying59 hi0 hz0 hz1 hz2 rfl (by omega) v _ _ hs h ad m c (dcells ys) hx (by rw [dcells_length, hm]) (hc ad rfl) (dcells_one ys) (by unfold maxLen; omega) (by omega) hS ?_
    intro v' w' hown hg _ _
    refine hK v' w' ?_ hg
    rw [List.length_append, dcells_app, hm]
    exact hown

end Go.Proofs.YtbcnlggkoidmmabGreatDoor

namespace Go.Proofs.YtbcnlggkoidmmabGreatDoor
open Go.RowKit Go.Joins RunsMath

/-- The cells of numbers. -/
def ivals (l : List Int) : List Value := l.map fun x => Value.int .i64 x
theorem ivals_length (l : List Int) : (ivals l).length = l.length := by simp [ivals]
theorem ivals_app (xs ys : List Int) : ivals (xs ++ ys) = ivals xs ++ ivals ys := by simp [ivals]
theorem ivals_get (l : List Int) (i : Nat) (h : i < l.length) : (ivals l)[i]? = some (.int .i64 (l.getD i 0)) := by
  unfold ivals
  rw [List.getElem?_map, List.getElem?_eq_getElem h, List.getD_eq_getElem?_getD, List.getElem?_eq_getElem h]
  rfl
theorem ivals_one (l : List Int) : ∀ u ∈ ivals l, u.oneCell' = true := by
  intro u hu
  obtain ⟨x, _, rfl⟩ := List.mem_map.mp hu
  rfl
/-- A list of numbers of the call's own. -/
def NumRow (w : World) (S : Nat) (v : Value) (l : List Int) : Prop := w.ownsRow S 3 1 v l.length (ivals l)
theorem NumRow.empty (w : World) (S : Nat) (h : S ≤ w.heap.size) : NumRow (w.alloc (.cells #[] 3)) S (.slice (some ⟨w.heap.size, 0, none⟩) 0 0) [] :=
  ⟨rfl, .inr ⟨w.heap.size, 0, #[], rfl, h, heap_alloc_new w _, Nat.le_refl _, Nat.zero_le _, rfl, rfl⟩⟩
theorem NumRow.form {w : World} {S : Nat} {v : Value} {l : List Int} (h : NumRow w S v l) : ∃ a c, v = .slice a l.length c ∧ (a = none → c = 0) ∧ l.length ≤ c ∧ Came w a l.length (fun i => l.getD i 0) ∧ ∀ ad, a = some ad → ∀ j u, (ivals l)[j]? = some u → w.cell? (ad.add j) = some u := by
  rcases h.2 with ⟨rfl, h0⟩ | ⟨g, cap, cur, rfl, hb, hg, hc, hm, hs, ht⟩
  · exact ⟨none, 0, by rw [h0], fun _ => rfl, by omega, .inl h0, fun ad e => by cases e⟩
  · refine ⟨_, cap, rfl, (fun e => by cases e), hc, .inr ⟨g, 0, rfl, block_lt hg, fun j hj => ?_⟩, fun ad e j u hu => ?_⟩
    · rw [Nat.zero_add, h.cellAt j (by omega)]
      exact ivals_get l j hj
    · cases e
      have hj : j < l.length := by
        rcases Nat.lt_or_ge j l.length with k | k
        · exact k
        · rw [List.getElem?_eq_none (by rw [ivals_length]; exact k)] at hu; cases hu
      rw [Addr.add_lit, Nat.zero_add, h.cellAt j (by omega)]
      exact hu
theorem NumRow.called {w w' : World} {S : Nat} {v : Value} {l : List Int} (h : NumRow w S v l) (hb : Below w.heap.size w w') : NumRow w' S v l := by
  refine ⟨h.1, ?_⟩
  rcases h.2 with h | ⟨g, cap, cur, rfl, h1, h2, h3⟩
  · exact .inl h
  · exact .inr ⟨g, cap, cur, rfl, h1, (hb.block g (block_lt h2)).trans h2, h3⟩

/-- 'append(v, ys...)' of numbers. -/
theorem nums_append {w : World} {S : Nat} {v : Value} {xs ys : List Int} {ops : Array Oper} {rest : List Oper} {o : Oper} {a : Act} {Q : Exit → Act → World → Prop} (hgd : o.guard = none) (s x : Operand)
    (ho : o.op = .call { callee := .builtin .append, args := #[s, x], argTypes := #[51, 51] }) (hs : a.eval s = v) (h : NumRow w S v xs) (ao : Option Addr) (m c : Nat) (hx : a.eval x = .slice ao m c) (hm : ys.length = m)
    (hc : ∀ ad, ao = some ad → ∀ j u, (ivals ys)[j]? = some u → w.cell? (ad.add j) = some u) (hn : ao = none → m = 0 ∧ c = 0)
    (h63 : xs.length + ys.length ≤ 100000) (hS : S ≤ w.heap.size)
    (hK : ∀ v' w', NumRow w' S v' (xs ++ ys) → w.grownBy w' v.ownBlock → wpList Tryz.prog ops Q rest (a.put o.dst v') w') : wpList Tryz.prog ops Q (o :: rest) a w := by
  obtain ⟨i0, hi0, hz0, hz1, hz2⟩ := info_parts info_int
  cases ao with
  | none =>
    obtain ⟨rfl, rfl⟩ := hn rfl
    obtain rfl : ys = [] := List.eq_nil_of_length_eq_zero hm
    refine wpList_append_own_none hgd s x _ ho S 3 i0 1 Tryz.underlying51 hi0 v _ _ hs h hx (hK v w (by rw [List.append_nil]; exact h) ⟨rfl, rfl, rfl, Nat.le_refl _, fun _ _ _ => rfl⟩)
  | some ad =>
    refine wpList_append_own_at w hgd s x _ ho S 3 i0 _ 1 8 Tryz.underlying51 hi0 hz0 hz1 hz2 rfl (by omega) v _ _ hs h ad m c (ivals ys) hx (by rw [ivals_length, hm, Nat.mul_one]) (hc ad rfl) (ivals_one ys) (by unfold maxLen; omega) (by omega) hS ?_
    intro v' w' hown hg _ _
    refine hK v' w' ?_ hg
    show w'.ownsRow S 3 1 v' (xs ++ ys).length (ivals (xs ++ ys))
    rw [List.length_append, ivals_app, hm]
    exact hown

end Go.Proofs.YtbcnlggkoidmmabGreatDoor

namespace Go.Proofs.YtbcnlggkoidmmabGreatDoor
open Go.RowKit Go.Joins

theorem sl_of_num {w : World} {S : Nat} {a : Option Addr} {n c : Nat} {O : List Int} (h : NumRow w S (.slice a n c) O) (hn : n = O.length) : SL w S a n c (fun j => O.getD j 0) := by
  rcases Nat.eq_zero_or_pos n with h0 | h0
  · exact .inl h0
  · obtain ⟨g, _, ho⟩ := own_of_ownsRow h (by omega)
    obtain ⟨cap, e⟩ := ho.form
    obtain ⟨e1, e2, e3⟩ := Value.slice.inj e
    subst e1 e3
    have e4 : fints (fun j => O.getD j 0) n = ivals O := by
      refine List.ext_getElem? (fun i => ?_)
      rcases Nat.lt_or_ge i O.length with q | q
      · rw [ivals_get O i q, List.getElem?_eq_getElem (by rw [fints_length]; omega), fints_get]
      · rw [List.getElem?_eq_none (by rw [fints_length]; omega), List.getElem?_eq_none (by rw [ivals_length]; exact q)]
    refine .inr ⟨g, rfl, ?_⟩
    unfold IOwn
    rw [e4]
    exact ho

end Go.Proofs.YtbcnlggkoidmmabGreatDoor

namespace Go.Proofs.YtbcnlggkoidmmabGreatDoor
open Go.RowKit Go.Joins PartMath

/-- The cells of parts. -/
def pcells : List Part → List Value
  | [] => []
  | c :: l => .int .i64 c.1 :: .int .i64 (c.2.1 : Int) :: .bool c.2.2 :: pcells l
theorem pcells_length : ∀ l : List Part, (pcells l).length = l.length * 3
  | [] => rfl
  | c :: l => by
    show (pcells l).length + 1 + 1 + 1 = (l.length + 1) * 3
    rw [pcells_length l]
    omega
theorem pcells_app : ∀ xs ys : List Part, pcells (xs ++ ys) = pcells xs ++ pcells ys
  | [], ys => rfl
  | c :: l, ys => by
    show Value.int .i64 c.1 :: .int .i64 (c.2.1 : Int) :: .bool c.2.2 :: pcells (l ++ ys) = Value.int .i64 c.1 :: .int .i64 (c.2.1 : Int) :: .bool c.2.2 :: (pcells l ++ pcells ys)
    rw [pcells_app l ys]
theorem pcells_get : ∀ (l : List Part) (i : Nat), i < l.length → (pcells l)[i * 3]? = some (.int .i64 (l.getD i (0, 0, false)).1) ∧ (pcells l)[i * 3 + 1]? = some (.int .i64 ((l.getD i (0, 0, false)).2.1 : Int)) ∧ (pcells l)[i * 3 + 2]? = some (.bool (l.getD i (0, 0, false)).2.2)
  | [], i, h => by simp at h
  | c :: l, 0, _ => ⟨rfl, rfl, rfl⟩
  | c :: l, i + 1, h => by
    have q := pcells_get l i (by simpa using h)
    rw [show (i + 1) * 3 = i * 3 + 1 + 1 + 1 by omega]
    exact q
theorem pcells_one : ∀ (l : List Part), ∀ u ∈ pcells l, u.oneCell' = true
  | [], u, h => by cases h
  | c :: l, u, h => by
    rcases List.mem_cons.mp h with rfl | h
    · rfl
    · rcases List.mem_cons.mp h with rfl | h
      · rfl
      · rcases List.mem_cons.mp h with rfl | h
        · rfl
        · exact pcells_one l u h

/-- A slice of parts that came in. -/
def PCame (w : World) (a : Option Addr) (L : List Part) : Prop :=
  L.length = 0 ∨ ∃ g off, a = some ⟨g, off, none⟩ ∧ g < w.heap.size ∧ ∀ j, j < L.length → w.cell? ⟨g, off + j * 3, none⟩ = some (.int .i64 (L.getD j (0, 0, false)).1) ∧ w.cell? ⟨g, off + j * 3 + 1, none⟩ = some (.int .i64 ((L.getD j (0, 0, false)).2.1 : Int)) ∧ w.cell? ⟨g, off + j * 3 + 2, none⟩ = some (.bool (L.getD j (0, 0, false)).2.2)
theorem PCame.called {w w' : World} {a : Option Addr} {L : List Part} (h : PCame w a L) (hb : Below w.heap.size w w') : PCame w' a L := by
  rcases h with h | ⟨g, off, ha, hg, hc⟩
  · exact .inl h
  · exact .inr ⟨g, off, ha, Nat.lt_of_lt_of_le hg hb.size, fun j hj => ⟨(hb.cell (p := ⟨g, off + j * 3, none⟩) hg).trans (hc j hj).1, (hb.cell (p := ⟨g, off + j * 3 + 1, none⟩) hg).trans (hc j hj).2.1, (hb.cell (p := ⟨g, off + j * 3 + 2, none⟩) hg).trans (hc j hj).2.2⟩⟩
/-- The cells of a list of parts that came in, one behind the other. -/
theorem PCame.news {w : World} {ad : Addr} {L : List Part} (h : PCame w (some ad) L) : ∀ j u, (pcells L)[j]? = some u → w.cell? (ad.add j) = some u := by
  intro j u hu
  have hj : j < L.length * 3 := by
    rw [← pcells_length]
    rcases Nat.lt_or_ge j (pcells L).length with k | k
    · exact k
    · rw [List.getElem?_eq_none k] at hu; cases hu
  rcases h with h | ⟨g, off, ha, hg, hc⟩
  · omega
  cases ha
  have hm := pcells_get L (j / 3) (by omega)
  have q := hc (j / 3) (by omega)
  rw [Addr.add_lit]
  obtain h0 | h0 | h0 : j = j / 3 * 3 ∨ j = j / 3 * 3 + 1 ∨ j = j / 3 * 3 + 2 := by omega
  · rw [h0] at hu
    rw [hm.1] at hu
    rw [show off + j = off + j / 3 * 3 by omega, q.1, hu]
  · rw [h0] at hu
    rw [hm.2.1] at hu
    rw [show off + j = off + j / 3 * 3 + 1 by omega, q.2.1, hu]
  · rw [h0] at hu
    rw [hm.2.2] at hu
    rw [show off + j = off + j / 3 * 3 + 2 by omega, q.2.2, hu]
/-- What a call owns, by its places. -/
theorem pcame_of_own {w : World} {e : TypeId} {S n : Nat} {v : Value} {L : List Part} (h : w.ownsRow S e 3 v n (pcells L)) (hn : n = L.length) : ∃ a c, v = .slice a L.length c ∧ L.length ≤ c ∧ c ≤ maxLen ∧ (a = none → c = 0) ∧ PCame w a L ∧ (∀ ad, a = some ad → ∃ g, ad = ⟨g, 0, none⟩ ∧ S ≤ g) := by
  subst hn
  rcases h.2 with ⟨rfl, h0⟩ | ⟨g, cap, cur, rfl, hb, hg, hc, hm, hs, ht⟩
  · exact ⟨none, 0, by rw [h0], by omega, Nat.zero_le _, fun _ => rfl, .inl h0, fun ad e => by cases e⟩
  · refine ⟨_, cap, rfl, hc, hm, (fun e => by cases e), .inr ⟨g, 0, rfl, block_lt hg, fun j hj => ?_⟩, fun ad e => by cases e; exact ⟨g, rfl, hb⟩⟩
    have q := pcells_get L j hj
    rw [Nat.zero_add, h.cellAt (j * 3) (by omega), h.cellAt (j * 3 + 1) (by omega), h.cellAt (j * 3 + 2) (by omega)]
    exact q
theorem row_called {w w' : World} {e : TypeId} {S m n : Nat} {v : Value} {L : List Value} (h : w.ownsRow S e m v n L) (hb : Below w.heap.size w w') : w'.ownsRow S e m v n L := by
  refine ⟨h.1, ?_⟩
  rcases h.2 with h | ⟨g, cap, cur, rfl, h1, h2, h3⟩
  · exact .inl h
  · exact .inr ⟨g, cap, cur, rfl, h1, (hb.block g (block_lt h2)).trans h2, h3⟩

/-- 'append(v, ys...)' of parts, and where the list then lies. -/
theorem parts_append {e t : TypeId} (ht : Tryz.prog.underlying t = some (.slice e)) (hinf : (Tryz.prog.info? e).map (fun i => (i.zero, i.size, i.bytes)) = some (some (.agg #[.int .i64 0, .int .i64 0, .bool false]), 3, 24)) {w : World} {S : Nat} {v : Value} {xs ys : List Part} {ops : Array Oper} {rest : List Oper} {o : Oper} {a : Act} {Q : Exit → Act → World → Prop} (hgd : o.guard = none) (s x : Operand)
    (ho : o.op = .call { callee := .builtin .append, args := #[s, x], argTypes := #[t, t] }) (hs : a.eval s = v) (h : w.ownsRow S e 3 v xs.length (pcells xs)) (ad : Addr) (m c : Nat) (hx : a.eval x = .slice (some ad) m c) (hm : ys.length = m)
    (hc : ∀ j u, (pcells ys)[j]? = some u → w.cell? (ad.add j) = some u)
    (h63 : xs.length + ys.length ≤ 1000000) (hS : S ≤ w.heap.size)
    (hK : ∀ v' w', w'.ownsRow S e 3 v' (xs ++ ys).length (pcells (xs ++ ys)) → w.grownBy w' v.ownBlock → (v'.ownBlock = v.ownBlock ∨ v'.ownBlock = some w.heap.size) → wpList Tryz.prog ops Q rest (a.put o.dst v') w') : wpList Tryz.prog ops Q (o :: rest) a w := by
  obtain ⟨i0, hi0, hz0, hz1, hz2⟩ := info_parts hinf
  refine wpList_append_own_at w hgd s x _ ho S e i0 _ 3 24 ht hi0 hz0 hz1 hz2 rfl (by omega) v _ _ hs h ad m c (pcells ys) hx (by rw [pcells_length, hm]) hc (pcells_one ys) (by unfold maxLen; omega) (by omega) hS ?_
  intro v' w' hown hg _ hat
  refine hK v' w' ?_ hg hat
  rw [List.length_append, pcells_app, hm]
  exact hown
/-- The same at a step of a region that draws its order. -/
theorem step_parts {e t : TypeId} (ht : Tryz.prog.underlying t = some (.slice e)) (hinf : (Tryz.prog.info? e).map (fun i => (i.zero, i.size, i.bytes)) = some (some (.agg #[.int .i64 0, .int .i64 0, .bool false]), 3, 24)) (w : World) {ops : Array Oper} {o : Oper} {a : Act} {K : Act → World → Prop} {Q : Exit → Act → World → Prop} {E : Prop} (hgd : o.guard = none) (s x : Operand)
    (ho : o.op = .call { callee := .builtin .append, args := #[s, x], argTypes := #[t, t] }) (S : Nat) (v : Value) (xs ys : List Part) (hs : a.eval s = v) (h : w.ownsRow S e 3 v xs.length (pcells xs)) (ad : Addr) (m c : Nat) (hx : a.eval x = .slice (some ad) m c) (hm : ys.length = m) (hm0 : 0 < m)
    (hc : ∀ j u, (pcells ys)[j]? = some u → w.cell? (ad.add j) = some u) (h63 : xs.length + ys.length ≤ 1000000) (hS : S ≤ w.heap.size) (H : Nat) (hH : w.heap.size = H) (N : Nat) (hN : (xs ++ ys).length = N)
    (hK : ∀ g cap w', w'.ownsRow S e 3 (.slice (some ⟨g, 0, none⟩) N cap) N (pcells (xs ++ ys)) → w.grownBy w' v.ownBlock → (v.ownBlock = some g ∨ g = H) → g < w'.heap.size → K (a.put o.dst (.slice (some ⟨g, 0, none⟩) N cap)) w') :
    if Region.wanted o (yielded ops a.tmps) = true then Oper.wp Tryz.prog o a w K Q else E := by
  obtain ⟨i0, hi0, hz0, hz1, hz2⟩ := info_parts hinf
  rw [List.length_append, hm] at hN
  subst hN
  refine step_append_lies w hgd s x t ho S e i0 _ 3 24 ht hi0 hz0 hz1 hz2 rfl (by omega) v _ _ hs h ad m c (pcells ys) hx (by rw [pcells_length, hm]) hc (pcells_one ys) hm0 (by unfold maxLen; omega) (by omega) hS H hH ?_
  intro g cap w' h1 h2 h3 h4
  refine hK g cap w' ?_ h2 h3 h4
  rw [pcells_app]
  exact h1
/-- The cells of one part that lies in a block of its own. -/
theorem news_part (w : World) (e : TypeId) (x : Int) (k : Nat) (h : Bool) (n : Nat) (hn : w.heap.size = n) : ∀ q u, (pcells [(x, k, h)])[q]? = some u → (w.alloc (.cells #[.int .i64 x, .int .i64 (k : Int), .bool h] e)).cell? ((⟨n, 0, none⟩ : Addr).add q) = some u := by
  subst hn
  exact World.news_of_block (cs := #[.int .i64 x, .int .i64 (k : Int), .bool h]) (t := e) (fr := (0, 0)) (heap_alloc_new w _)
theorem news_parts (w : World) (e : TypeId) (L : List Part) (n : Nat) (hn : w.heap.size = n) : ∀ q u, (pcells L)[q]? = some u → (w.alloc (.cells (pcells L).toArray e)).cell? ((⟨n, 0, none⟩ : Addr).add q) = some u := by
  subst hn
  have := World.news_of_block (cs := (pcells L).toArray) (t := e) (fr := (0, 0)) (heap_alloc_new w (.cells (pcells L).toArray e))
  simpa using this
/-- A literal of parts is the call's own. -/
theorem own_lit (w : World) (e : TypeId) (S : Nat) (hS : S ≤ w.heap.size) (L : List Part) (hL : L.length ≤ 1000000) : (w.alloc (.cells (pcells L).toArray e)).ownsRow S e 3 (.slice (some ⟨w.heap.size, 0, none⟩) L.length L.length) L.length (pcells L) := by
  refine ⟨pcells_length L, .inr ⟨w.heap.size, L.length, _, rfl, hS, heap_alloc_new w _, Nat.le_refl _, by unfold maxLen; omega, by simp [pcells_length], ?_⟩⟩
  simp [← pcells_length]
end Go.Proofs.YtbcnlggkoidmmabGreatDoor
