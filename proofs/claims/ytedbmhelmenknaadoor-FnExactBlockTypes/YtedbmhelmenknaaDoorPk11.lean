/-
  An unpacking under way in the program: its record, its reader, what it made so far, the types so far; what a step leaves alone.
  The program's reader beside an unpacking under way: bits are taken, whole bytes are passed to.
-/
import Derived.Test.YtedbmhelmenknaaDoorPk10
import Derived.Test.YtedbmhelmenknaaDoorPk05
import Derived.Test.YtedbmhelmenknaaDoorPk07
import Derived.WalkKit
import Derived.ProofKit
import Derived.Below
import Derived.WalkLawsBesides
import Derived.RegionTactic
import Derived.Deep.QuietTactic
import Derived.OwnWalk
import Derived.BigQuiet
import Derived.Lib.SmallJoins
namespace Go.Proofs.YtedbmhelmenknaaDoor
open Go.RowKit Go.Joins TokMath

/-- The record lies in block fb. -/
def FB (w : World) (fb rb : Nat) (vo : Value) (most : Nat) (vt : Value) : Prop := w.heap[fb]? = some (.cells #[.pointer (some ⟨rb, 0, none⟩), vo, .int .i64 (most : Int), vt] 44 (0, 0))
section
variable {w w' : World} {fb rb : Nat} {vo : Value} {most : Nat} {vt : Value}
theorem FB.lt (h : FB w fb rb vo most vt) : fb < w.heap.size := block_lt h
theorem FB.cells (h : FB w fb rb vo most vt) : w.cell? ⟨fb, 0, none⟩ = some (.pointer (some ⟨rb, 0, none⟩)) ∧ w.cell? ⟨fb, 1, none⟩ = some vo ∧ w.cell? ⟨fb, 2, none⟩ = some (.int .i64 (most : Int)) ∧ w.cell? ⟨fb, 3, none⟩ = some vt :=
  ⟨(cell_of_block h 0).trans rfl, (cell_of_block h 1).trans rfl, (cell_of_block h 2).trans rfl, (cell_of_block h 3).trans rfl⟩
theorem FB.free (h : FB w fb rb vo most vt) (q : Nat) : w.frozen? ⟨fb, q, none⟩ = false := by
  unfold FB at h
  simp [World.frozen?, h]
theorem FB.made (h : FB w fb rb vo most vt) (v : Value) : FB (w.setCell ⟨fb, 1, none⟩ v) fb rb v most vt := by
  have := block_setCell (i := 1) h v
  unfold FB
  simpa using this
theorem FB.types (h : FB w fb rb vo most vt) (v : Value) : FB (w.setCell ⟨fb, 3, none⟩ v) fb rb vo most v := by
  have := block_setCell (i := 3) h v
  unfold FB
  simpa using this
end

/-- A block that no step of the unpacking turns. -/
def Safe (w : World) (fb rb : Nat) (vo vt : Value) (k : Nat) : Prop := k < w.heap.size ∧ k ≠ fb ∧ k ≠ rb ∧ vo.ownBlock ≠ some k ∧ vt.ownBlock ≠ some k
/-- A step: it leaves those alone, and they stay such. -/
structure Step (fb rb : Nat) (w : World) (vo vt : Value) (w' : World) (vo' vt' : Value) : Prop where
  os : w'.os = w.os
  tape : w'.tape = w.tape
  output : w'.output = w.output
  size : w.heap.size ≤ w'.heap.size
  block : ∀ k, Safe w fb rb vo vt k → Safe w' fb rb vo' vt' k ∧ w'.heap[k]? = w.heap[k]?
section
variable {fb rb : Nat} {w w1 w' : World} {vo vt vo1 vt1 vo' vt' : Value}
theorem Step.refl (w : World) : Step fb rb w vo vt w vo vt := ⟨rfl, rfl, rfl, Nat.le_refl _, fun _ h => ⟨h, rfl⟩⟩
theorem Step.trans (h : Step fb rb w vo vt w1 vo1 vt1) (k : Step fb rb w1 vo1 vt1 w' vo' vt') : Step fb rb w vo vt w' vo' vt' :=
  ⟨k.os.trans h.os, k.tape.trans h.tape, k.output.trans h.output, Nat.le_trans h.size k.size, fun i hi => ⟨(k.block i (h.block i hi).1).1, (k.block i (h.block i hi).1).2.trans (h.block i hi).2⟩⟩
/-- What turns one block that is the record's or the reader's, or none of the old ones. -/
theorem Step.one {row : Option Nat} (hg : w.grownBy w' row) (hr : ∀ k, row = some k → k = fb ∨ k = rb ∨ vo.ownBlock = some k ∨ vt.ownBlock = some k) : Step fb rb w vo vt w' vo vt :=
  ⟨hg.os, hg.tape, hg.output, hg.size, fun k h => ⟨⟨Nat.lt_of_lt_of_le h.1 hg.size, h.2⟩, hg.block k h.1 (fun e => by
    rcases hr k e.symm with q | q | q | q
    · exact h.2.1 q
    · exact h.2.2.1 q
    · exact h.2.2.2.1 q
    · exact h.2.2.2.2 q)⟩⟩
theorem Step.called (hb : Below w.heap.size w w') : Step fb rb w vo vt w' vo vt := ⟨hb.os, hb.tape, hb.output, hb.size, fun k h => ⟨⟨Nat.lt_of_lt_of_le h.1 hb.size, h.2⟩, hb.block k h.1⟩⟩
/-- The bytes lie elsewhere. -/
theorem Step.made (h : Step fb rb w vo vt w' vo vt) (hv : ∀ k, vo'.ownBlock = some k → vo.ownBlock = some k ∨ w.heap.size ≤ k) : Step fb rb w vo vt w' vo' vt :=
  ⟨h.os, h.tape, h.output, h.size, fun k hk => ⟨⟨(h.block k hk).1.1, hk.2.1, hk.2.2.1, fun e => by
    rcases hv k e with q | q
    · exact hk.2.2.2.1 q
    · have := hk.1
      omega, hk.2.2.2.2⟩, (h.block k hk).2⟩⟩
theorem Step.types (h : Step fb rb w vo vt w' vo vt) (hv : ∀ k, vt'.ownBlock = some k → vt.ownBlock = some k ∨ w.heap.size ≤ k) : Step fb rb w vo vt w' vo vt' :=
  ⟨h.os, h.tape, h.output, h.size, fun k hk => ⟨⟨(h.block k hk).1.1, hk.2.1, hk.2.2.1, hk.2.2.2.1, fun e => by
    rcases hv k e with q | q
    · exact hk.2.2.2.2 q
    · have := hk.1
      omega⟩, (h.block k hk).2⟩⟩
end

/-- The whole state. -/
def PS (B : Nat) (w : World) (fb rb : Nat) (s : ByteArray) (p : Nat) (O : List Int) (most : Nat) (Ty : List Int) (vo vt : Value) : Prop :=
  FB w fb rb vo most vt ∧ Rd w rb s (p : Int) ∧ OR w B vo O ∧ NumRow w B vt Ty ∧ (vo.ownBlock = none ∨ vo.ownBlock ≠ vt.ownBlock) ∧ (vo.ownBlock ≠ some fb ∧ vt.ownBlock ≠ some fb) ∧ (vo.ownBlock ≠ some rb ∧ vt.ownBlock ≠ some rb) ∧ fb ≠ rb ∧ B ≤ fb ∧ B ≤ rb ∧ B ≤ w.heap.size
section
variable {B : Nat} {w w1 w' : World} {fb rb : Nat} {s : ByteArray} {p : Nat} {O : List Int} {most : Nat} {Ty : List Int} {vo vt : Value}
theorem PS.ltf (h : PS B w fb rb s p O most Ty vo vt) : fb < w.heap.size := h.1.lt
theorem PS.ltr (h : PS B w fb rb s p O most Ty vo vt) : rb < w.heap.size := h.2.1.lt
/-- What lies ahead of all is safe. -/
theorem PS.safe (h : PS B w fb rb s p O most Ty vo vt) {k : Nat} (hk : k < B) : Safe w fb rb vo vt k := by
  obtain ⟨h1, h2, h3, h4, h5, h6, h7, h8, h9, h10, h11⟩ := h
  refine ⟨by omega, by omega, by omega, fun e => ?_, fun e => ?_⟩
  · have := (World.ownsRow.lt h3 k e).1
    omega
  · have := (World.ownsRow.lt h4 k e).1
    omega
theorem PS.below {vo' vt' : Value} (h : PS B w fb rb s p O most Ty vo vt) (hs : Step fb rb w vo vt w' vo' vt') : Below B w w' := ⟨hs.os, hs.tape, hs.output, hs.size, fun k hk => (hs.block k (h.safe hk)).2⟩
/-- The reader alone is turned. -/
theorem PS.read {q : Nat} (h : PS B w fb rb s p O most Ty vo vt) (hr : Rd w' rb s (q : Int)) (hg : w.grownBy w' (some rb)) : PS B w' fb rb s q O most Ty vo vt := by
  obtain ⟨h1, h2, h3, h4, h5, h6, h7, h8, h9, h10, h11⟩ := h
  exact ⟨(hg.block fb h1.lt (fun e => h8 (by cases e; rfl))).trans h1, hr, World.ownsRow.kept h3 hg (.inr h7.1), World.ownsRow.kept h4 hg (.inr h7.2), h5, h6, h7, h8, h9, h10, Nat.le_trans h11 hg.size⟩
theorem PS.called (h : PS B w fb rb s p O most Ty vo vt) (hb : Below w.heap.size w w') : PS B w' fb rb s p O most Ty vo vt := h.read ((hb.block rb h.ltr).trans h.2.1) (grown_called hb _)
/-- A block that is none of its own is turned. -/
theorem PS.other {row : Option Nat} (h : PS B w fb rb s p O most Ty vo vt) (hg : w.grownBy w' row) (hr : ∀ k, row = some k → k ≠ fb ∧ k ≠ rb ∧ vo.ownBlock ≠ some k ∧ vt.ownBlock ≠ some k) : PS B w' fb rb s p O most Ty vo vt := by
  obtain ⟨h1, h2, h3, h4, h5, h6, h7, h8, h9, h10, h11⟩ := h
  have ne : ∀ v : Value, (∀ k, row = some k → v.ownBlock ≠ some k) → v.ownBlock = none ∨ v.ownBlock ≠ row := fun v hv => by
    cases e : row with
    | none =>
      cases e2 : v.ownBlock with
      | none => exact .inl rfl
      | some k => exact .inr (fun q => by cases q)
    | some k => exact .inr (hv k e)
  exact ⟨(hg.block fb h1.lt (fun e => (hr fb e.symm).1 rfl)).trans h1, (hg.block rb h2.lt (fun e => (hr rb e.symm).2.1 rfl)).trans h2, World.ownsRow.kept h3 hg (ne vo fun k e => (hr k e).2.2.1), World.ownsRow.kept h4 hg (ne vt fun k e => (hr k e).2.2.2), h5, h6, h7, h8, h9, h10, Nat.le_trans h11 hg.size⟩
/-- Bytes are put behind: the row, then the record. -/
theorem PS.made {O' : List Int} {v' : Value} (h : PS B w fb rb s p O most Ty vo vt) (y1 : OR w1 B v' O') (y2 : w.grownBy w1 vo.ownBlock) (y3 : v'.ownBlock = vo.ownBlock ∨ ∀ k, v'.ownBlock = some k → w.heap.size ≤ k) :
    FB w1 fb rb vo most vt ∧ PS B (w1.setCell ⟨fb, 1, none⟩ v') fb rb s p O' most Ty v' vt ∧ Step fb rb w vo vt (w1.setCell ⟨fb, 1, none⟩ v') v' vt := by
  obtain ⟨h1, h2, h3, h4, h5, h6, h7, h8, h9, h10, h11⟩ := h
  have k1 : FB w1 fb rb vo most vt := (y2.block fb h1.lt (fun e => h6.1 e.symm)).trans h1
  have k2 : Rd w1 rb s (p : Int) := (y2.block rb h2.lt (fun e => h7.1 e.symm)).trans h2
  have hvt : vt.ownBlock = none ∨ vt.ownBlock ≠ vo.ownBlock := by
    cases e : vt.ownBlock with
    | none => exact .inl rfl
    | some k =>
      refine .inr (fun e1 => ?_)
      rcases h5 with q | q
      · rw [q] at e1
        cases e1
      · exact q (by rw [← e1, e])
  have ne : ∀ k, (vo.ownBlock ≠ some k) → k < w.heap.size → v'.ownBlock ≠ some k := fun k hk hl e => by
    rcases y3 with q | q
    · exact hk (by rw [← q]; exact e)
    · have := q k e
      omega
  have hgs := grown_cell w1 fb 1 v'
  have f1 := ne fb h6.1 h1.lt
  have f2 := ne rb h7.1 h2.lt
  refine ⟨k1, ⟨k1.made v', (hgs.block rb k2.lt (fun e => h8 (by cases e; rfl))).trans k2, World.ownsRow.kept y1 hgs (.inr f1), World.ownsRow.kept (World.ownsRow.kept h4 y2 hvt) hgs (.inr h6.2), ?_, ⟨f1, h6.2⟩, ⟨f2, h7.2⟩, h8, h9, h10, Nat.le_trans h11 (Nat.le_trans y2.size hgs.size)⟩, ?_⟩
  · cases e : v'.ownBlock with
    | none => exact .inl rfl
    | some k =>
      refine .inr (fun e1 => ?_)
      rcases y3 with q | q
      · rcases hvt with q1 | q1
        · rw [q1] at e1
          cases e1
        · exact q1 (by rw [← e1, ← e, q])
      · have l1 := q k e
        have l2 := (World.ownsRow.lt h4 k e1.symm).2
        omega
  · have s1 : Step fb rb w vo vt w1 vo vt := Step.one y2 (fun k e => .inr (.inr (.inl e)))
    have s2 : Step fb rb w1 vo vt (w1.setCell ⟨fb, 1, none⟩ v') vo vt := Step.one hgs (fun k e => .inl (by cases e; rfl))
    refine Step.made (s1.trans s2) (fun k e => ?_)
    rcases y3 with q | q
    · exact .inl (by rw [← q]; exact e)
    · exact .inr (q k e)
/-- A type is put behind. -/
theorem PS.typed {Ty' : List Int} {v' : Value} (h : PS B w fb rb s p O most Ty vo vt) (y1 : NumRow w1 B v' Ty') (y2 : w.grownBy w1 vt.ownBlock) (y3 : v'.ownBlock = vt.ownBlock ∨ ∀ k, v'.ownBlock = some k → w.heap.size ≤ k) :
    FB w1 fb rb vo most vt ∧ PS B (w1.setCell ⟨fb, 3, none⟩ v') fb rb s p O most Ty' vo v' ∧ Step fb rb w vo vt (w1.setCell ⟨fb, 3, none⟩ v') vo v' := by
  obtain ⟨h1, h2, h3, h4, h5, h6, h7, h8, h9, h10, h11⟩ := h
  have k1 : FB w1 fb rb vo most vt := (y2.block fb h1.lt (fun e => h6.2 e.symm)).trans h1
  have k2 : Rd w1 rb s (p : Int) := (y2.block rb h2.lt (fun e => h7.2 e.symm)).trans h2
  have ne : ∀ k, (vt.ownBlock ≠ some k) → k < w.heap.size → v'.ownBlock ≠ some k := fun k hk hl e => by
    rcases y3 with q | q
    · exact hk (by rw [← q]; exact e)
    · have := q k e
      omega
  have hgs := grown_cell w1 fb 3 v'
  have f1 := ne fb h6.2 h1.lt
  have f2 := ne rb h7.2 h2.lt
  refine ⟨k1, ⟨k1.types v', (hgs.block rb k2.lt (fun e => h8 (by cases e; rfl))).trans k2, World.ownsRow.kept (World.ownsRow.kept h3 y2 h5) hgs (.inr h6.1), World.ownsRow.kept y1 hgs (.inr f1), ?_, ⟨h6.1, f1⟩, ⟨h7.1, f2⟩, h8, h9, h10, Nat.le_trans h11 (Nat.le_trans y2.size hgs.size)⟩, ?_⟩
  · cases e : vo.ownBlock with
    | none => exact .inl rfl
    | some k =>
      refine .inr (fun e1 => ?_)
      rcases y3 with q | q
      · rcases h5 with q1 | q1
        · rw [q1] at e
          cases e
        · exact q1 (by rw [e, e1, q])
      · have l1 := q k e1.symm
        have l2 := (World.ownsRow.lt h3 k e).2
        omega
  · have s1 : Step fb rb w vo vt w1 vo vt := Step.one y2 (fun k e => .inr (.inr (.inr e)))
    have s2 : Step fb rb w1 vo vt (w1.setCell ⟨fb, 3, none⟩ v') vo vt := Step.one hgs (fun k e => .inl (by cases e; rfl))
    refine Step.types (s1.trans s2) (fun k e => ?_)
    rcases y3 with q | q
    · exact .inl (by rw [← q]; exact e)
    · exact .inr (q k e)
end
/-- The error that carries a code. -/
abbrev errV (c : Nat) : Value := .iface 57 (.agg #[.int .i64 (c : Int)])

end Go.Proofs.YtedbmhelmenknaaDoor

namespace Go.Proofs.YtedbmhelmenknaaDoor
open Go.RowKit Go.Joins OutMath TakeMath InfMath

theorem grown_draws (w : World) (n : Nat) (row : Option Nat) : w.grownBy (w.drewN n) row := ⟨rfl, rfl, rfl, Nat.le_refl _, fun _ _ _ => rfl⟩
set_option maxHeartbeats 400000 in
theorem takeBit_own (s : ByteArray) (a : Nat) (b : Nat) (w : World) (hR : Rd w b s a) (hs : s.size ≤ 12000) (ha : a < 8 * s.size) :
    Calls Tryd.prog 60 #[.pointer (some ⟨b, 0, none⟩)] w fun e w' => e = .returned (.int .i64 (bit s a)) ∧ Rd w' b s ((a + 1 : Nat) : Int) ∧ w.grownBy w' (some b) := by
  have c0 := hR.c0
  have c1 := hR.c1
  have hlt := hR.lt
  have f0 := hR.f
  have hset := fun (n : Nat) => Rd.set (w := w.drewN n) hR ((a : Int) + 1)
  have HS : Hid (∀ n : Nat, Rd ((w.drewN n).setCell ⟨b, 1, none⟩ (.int .i64 ((a : Int) + 1))) b s ((a : Int) + 1)) := hset
  clear hR hset
  have d : decide (8 * (s.size : Int) ≤ (a : Int)) = false := by simp; omega
  have hix := index_byteI s ((a : Int) / 8) (a / 8) (by omega) (by omega)
  have hy := byteAt_lt s (a / 8)
  have HB : Hid (bits .and .i64 (wrap64 ((byteAt s (a / 8) : Int) / 2 ^ (a % 8))) 1 = bit s a) := bit_and s a
  have q1 : (a : Int).tdiv 8 = (a : Int) / 8 := Int.tdiv_eq_ediv_of_nonneg (by omega)
  have q2 : (a : Int).tmod 8 = (a : Int) % 8 := Int.tmod_eq_emod_of_nonneg (by omega)
  have q3 : IntKind.i64.wrap ((a : Int) / 8) = (a : Int) / 8 := by rw [IntKind.wrap_i64]; omega
  go_enter Tryd.func60, Tryd.ntmps60
  go_wp2
  go_quiet (fail)
  go_wp2
  go_quiet (fail)
  go_wp2
  go_ret
  exact ⟨ret_i HB.out, HS.out _, (grown_draws _ _ _).trans (grown_cell _ _ _ _)⟩

set_option maxHeartbeats 400000 in
theorem takeNumber_own (s : ByteArray) (a n : Nat) (b : Nat) (w : World) (hR : Rd w b s a) (hs : s.size ≤ 12000) (hn : n ≤ 24) (ha : a + n ≤ 8 * s.size) :
    Calls Tryd.prog 48 #[.pointer (some ⟨b, 0, none⟩), .int .i64 n] w fun e w' => e = .returned (.int .i64 (num s a n)) ∧ Rd w' b s ((a + n : Nat) : Int) ∧ w.grownBy w' (some b) := by
  have d1 : decide ((n : Int) < 0) = false := by simp
  have d2 : decide ((24 : Int) < n) = false := by simp; omega
  have HR : Hid (Rd w b s a) := hR
  clear hR
  go_enter Tryd.func48, Tryd.ntmps48
  go_wp2_with fail
  go_loopw [5, 16] (fun x k w' => ∃ j : Nat, j ≤ n ∧ k = .int .i64 j ∧ x = .int .i64 (num s a j) ∧ Hid (Rd w' b s ((a + j : Nat) : Int)) ∧ Hid (w.grownBy w' (some b))) (fun _ k _ => n - (intOf k).toNat)
  case atStart => exact ⟨0, Nat.zero_le _, rfl, rfl, HR.out, grown_draws w 0 _⟩
  case round =>
    obtain ⟨j, hj, rfl, rfl, hR, hB⟩ := hrel
    have hb := num_bd s a j
    have hp := p2_pos j
    by_cases hlt : j < n
    · have hp4 := p2_24 (n := j) (by omega)
      have h01 := bit_01 s (a + j)
      have hm := mul01 _ _ h01.1 h01.2 hp
      have HO : Hid (bits .or .i64 (num s a j) (wrap64 (bit s (a + j) * 2 ^ j)) = num s a (j + 1)) := or_bitW _ _ _ (by omega) hb.1 hb.2 h01.1 h01.2
      go_wp2_with fail
      refine (takeBit_own s (a + j) b _ hR.out hs (by omega)).mono ?_
      rintro e w1 ⟨rfl, hR1, hB1⟩
      have HR1 : Hid (Rd w1 b s ((a + (j + 1) : Nat) : Int)) := hR1
      have HB1 := hid_of (hB.out.trans hB1)
      clear hR1 hB1
      go_wp2_with fail
      go_roundw
      case rel => exact ⟨j + 1, by omega, by go_num, by rw [HO.out], HR1, HB1⟩
      case measure => simp [intOf]; omega
    · obtain rfl : j = n := by omega
      go_wp2_with fail
      go_ret
      exact ⟨rfl, hR.out, hB.out⟩

set_option maxHeartbeats 400000 in
theorem bytesFor_small (x : Nat) (w : World) (h : x ≤ 1000000) :
    Calls Tryd.prog 15 #[.int .i64 (x : Int)] w fun e w' => e = .returned (.int .i64 (((x + 7) / 8 : Nat) : Int)) ∧ w' = w := by
  have q1 : ((x : Int) + 7).tdiv 8 = (((x + 7) / 8 : Nat) : Int) := by
    rw [Int.tdiv_eq_ediv_of_nonneg (by omega)]
    omega
  go_enter Tryd.func15, Tryd.ntmps15
  go_wp2
  go_ret
  exact ⟨ret_i (by omega), rfl⟩
set_option maxHeartbeats 400000 in
theorem passToByte_own (s : ByteArray) (a : Nat) (b : Nat) (w : World) (hR : Rd w b s a) (ha : a ≤ 100000) :
    Calls Tryd.prog 49 #[.pointer (some ⟨b, 0, none⟩)] w fun e w' => e = .returned (.tuple #[]) ∧ Rd w' b s ((8 * ((a + 7) / 8) : Nat) : Int) ∧ w.grownBy w' (some b) := by
  have c0 := hR.c0
  have c1 := hR.c1
  have hlt := hR.lt
  have f0 := hR.f
  have HS : Hid (∀ x : Int, Rd (w.setCell ⟨b, 1, none⟩ (.int .i64 x)) b s x) := fun x => Rd.set hR x
  clear hR
  have hbf := bytesFor_small a w (by omega)
  have hq : ((a + 7) / 8 : Nat) ≤ 100000 := by omega
  generalize hqq : (a + 7) / 8 = q at hbf hq
  clear hqq
  go_enter Tryd.func49, Tryd.ntmps49
  go_wp2_with fail
  refine hbf.mono ?_
  rintro e w1 ⟨rfl, rfl⟩
  clear hbf
  go_wp2_with fail
  go_end0
  exact ⟨rfl, by have := HS.out (8 * (q : Int)); rw [show ((8 * q : Nat) : Int) = 8 * (q : Int) by omega]; exact this, grown_cell _ _ _ _⟩

section
variable (B : Nat) (w : World) (fb rb : Nat) (s : ByteArray) (p : Nat) (O : List Int) (most : Nat) (Ty : List Int) (vo vt : Value)
set_option maxHeartbeats 400000 in
theorem take_yes (h : PS B w fb rb s p O most Ty vo vt) (hs : s.size ≤ 12000) (n : Nat) (hn : n ≤ 24) (ha : p + n ≤ 8 * s.size) :
    Calls Tryd.prog 36 #[.pointer (some ⟨fb, 0, none⟩), .int .i64 (n : Int)] w fun e w' => e = .returned (.tuple #[.int .i64 (num s p n), .nilIface]) ∧ PS B w' fb rb s (p + n) O most Ty vo vt ∧ w.grownBy w' (some rb) := by
  have HH := hid_of h
  have c0 := h.1.cells.1
  have r0 := h.2.1.c0
  have r1 := h.2.1.c1
  have hl := h.ltf
  have hl2 := h.ltr
  have htk := fun (w : World) (hR : Rd w rb s (p : Int)) => takeNumber_own s p n rb w hR hs hn ha
  have HR : Hid (∀ k, Rd (w.drewN k) rb s (p : Int)) := fun k => h.2.1
  clear h
  have d1 : decide (8 * (s.size : Int) < (p : Int) + (n : Int)) = false := decide_eq_false (by omega)
  go_enter Tryd.func36, Tryd.ntmps36
  go_wp2_with fail
  go_quiet (fail)
  go_wp2_with fail
  refine (htk _ (HR.out _)).mono ?_
  rintro e w1 ⟨rfl, hR1, hg1⟩
  have HE := hid_of (And.intro (HH.out.read hR1 ((grown_draws _ _ _).trans hg1)) ((grown_draws w _ _).trans hg1))
  clear htk hR1 hg1 HR HH
  go_wp2_with fail
  go_ret2
  exact ⟨rfl, HE.out⟩
set_option maxHeartbeats 400000 in
theorem take_no (h : PS B w fb rb s p O most Ty vo vt) (hs : s.size ≤ 12000) (hp : p ≤ 8 * s.size) (n : Nat) (hn : n ≤ 24) (ha : ¬ p + n ≤ 8 * s.size) :
    Calls Tryd.prog 36 #[.pointer (some ⟨fb, 0, none⟩), .int .i64 (n : Int)] w fun e w' => e = .returned (.tuple #[.int .i64 0, errV 2]) ∧ PS B w' fb rb s p O most Ty vo vt ∧ w.grownBy w' (some rb) := by
  have HH : Hid (∀ k, PS B (w.drewN k) fb rb s p O most Ty vo vt) := fun k => h.called ⟨rfl, rfl, rfl, Nat.le_refl _, fun _ _ => rfl⟩
  have c0 := h.1.cells.1
  have r0 := h.2.1.c0
  have r1 := h.2.1.c1
  have hl := h.ltf
  have hl2 := h.ltr
  clear h
  have d1 : decide (8 * (s.size : Int) < (p : Int) + (n : Int)) = true := decide_eq_true (by omega)
  go_enter Tryd.func36, Tryd.ntmps36
  go_wp2_with fail
  go_quiet (fail)
  go_wp2_with fail
  go_ret2
  exact ⟨rfl, HH.out _, grown_draws _ _ _⟩
end
end Go.Proofs.YtedbmhelmenknaaDoor
