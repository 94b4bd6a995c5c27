/-
  An unpacking under way in the document's model: its record; how bits and symbols are taken of it.
  An unpacking under way in the document's model: its record, what it made so far, and the types so far.
  The fixed codes: that they are codes, and what a block of type 1 is. Nothing here speaks of the program.
  'append' of one number onto a list of numbers of the call's own.
  append of one element onto a list of numbers or bytes of the call's own, and where the row lies behind it.
  The walks of the document's model of the next whole byte.
-/
import Derived.Test.YtbcnlggkoidmmaaGreatDoorRows
import Derived.Test.YtbcnlggkoidmmaaGreatDoorPk01
import Derived.Test.YtbcnlggkoidmmaaGreatDoorPk04
import Derived.Test.YtbcnlggkoidmmaaGreatDoorPk05
import Derived.Test.YtbcnlggkoidmmaaGreatDoorPk06
import Derived.Test.YtbcnlggkoidmmaaGreatDoorPk08
import Derived.Test.YtbcnlggkoidmmaaGreatDoorPk02
import Derived.Test.YtbcnlggkoidmmaaGreatDoorPk07
import Derived.Test.YtbcnlggkoidmmaaGreatDoorPk03
import Derived.WalkKit
import Derived.ProofKit
import Derived.WalkLawsBesides
import Derived.Below
import Derived.Laws.AppendOwn
import Derived.Maps.AppendAt
import Derived.Lib.SmallJoins
import Derived.Laws.OwnMore
import Derived.Deep.AppendLies
import Derived.OwnWalk
import Derived.Deep.QuietTactic
import Derived.BigQuiet
namespace Go.Proofs.YtbcnlggkoidmmaaGreatDoor
open Go.RowKit Go.Joins OutMath CodeMath TakeMath HitMath WayMath InfMath

/-- The cells of the record. -/
abbrev rc (s : ByteArray) (p : Nat) (vo : Value) (most : Nat) (c : Nat) (vt : Value) : Array Value := #[.string s, .int .i64 (p : Int), vo, .int .i64 (most : Int), .int .i64 (c : Int), vt]
/-- The record lies in block b. -/
def RB (w : World) (b : Nat) (s : ByteArray) (p : Nat) (vo : Value) (most c : Nat) (vt : Value) : Prop := w.heap[b]? = some (.cells (rc s p vo most c vt) 89 (0, 0))
section
variable {w w' : World} {b : Nat} {s : ByteArray} {p : Nat} {vo : Value} {most c : Nat} {vt : Value}
theorem RB.lt (h : RB w b s p vo most c vt) : b < w.heap.size := block_lt h
theorem RB.cells (h : RB w b s p vo most c vt) : w.cell? ⟨b, 0, none⟩ = some (.string s) ∧ w.cell? ⟨b, 1, none⟩ = some (.int .i64 (p : Int)) ∧ w.cell? ⟨b, 2, none⟩ = some vo ∧ w.cell? ⟨b, 3, none⟩ = some (.int .i64 (most : Int)) ∧ w.cell? ⟨b, 4, none⟩ = some (.int .i64 (c : Int)) ∧ w.cell? ⟨b, 5, none⟩ = some vt :=
  ⟨(cell_of_block h 0).trans rfl, (cell_of_block h 1).trans rfl, (cell_of_block h 2).trans rfl, (cell_of_block h 3).trans rfl, (cell_of_block h 4).trans rfl, (cell_of_block h 5).trans rfl⟩
theorem RB.free (h : RB w b s p vo most c vt) (q : Nat) : w.frozen? ⟨b, q, none⟩ = false := by
  unfold RB at h
  simp [World.frozen?, h]
theorem RB.called (h : RB w b s p vo most c vt) (hb : Below w.heap.size w w') : RB w' b s p vo most c vt := (hb.block b h.lt).trans h
theorem RB.code (h : RB w b s p vo most c vt) (x : Nat) : RB (w.setCell ⟨b, 4, none⟩ (.int .i64 (x : Int))) b s p vo most x vt := by
  have := block_setCell (i := 4) h (.int .i64 (x : Int))
  unfold RB
  simpa using this
theorem RB.bits (h : RB w b s p vo most c vt) (q : Nat) : RB ((w.setCell ⟨b, 0, none⟩ (.string s)).setCell ⟨b, 1, none⟩ (.int .i64 (q : Int))) b s q vo most c vt := by
  have h0 := block_setCell (i := 0) h (.string s)
  have h1 := block_setCell (i := 1) h0 (.int .i64 (q : Int))
  unfold RB
  simpa using h1
theorem grown_called (hb : Below w.heap.size w w') (row : Option Nat) : w.grownBy w' row := ⟨hb.os, hb.tape, hb.output, hb.size, fun k hk _ => hb.block k hk⟩
theorem grown_cell (w : World) (b o : Nat) (v : Value) : w.grownBy (w.setCell ⟨b, o, none⟩ v) (some b) :=
  ⟨rfl, rfl, rfl, by simp [World.setCell], fun i _ hi => by simp [World.setCell, Array.getElem?_modify, show ¬ b = i from fun e => hi (by rw [e])]⟩
end

/-- What taking bits comes to: the number, the place and the code behind it. -/
def bitsR (s : ByteArray) (p c n : Nat) : Int × Nat × Nat := if c ≠ 0 then (0, p, c) else if p + n ≤ 8 * s.size then (num s p n, p + n, 0) else (0, p, 2)

set_option maxHeartbeats 1600000 in
theorem l08Bits_any (b : Nat) (s : ByteArray) (p : Nat) (vo : Value) (most c : Nat) (vt : Value) (n : Nat) (w : World) (h : RB w b s p vo most c vt) (hs : s.size ≤ 12000) (_hp : p ≤ 8 * s.size) (hn : n ≤ 24) :
    Calls Tryz.prog 83 #[.pointer (some ⟨b, 0, none⟩), .int .i64 (n : Int)] w fun e w' => e = .returned (.int .i64 (bitsR s p c n).1) ∧ RB w' b s (bitsR s p c n).2.1 vo most (bitsR s p c n).2.2 vt ∧ w.grownBy w' (some b) := by
  obtain ⟨c0, c1, c2, c3, c4, c5⟩ := h.cells
  have hl := h.lt
  have HH := hid_of h
  clear h c2 c3 c5
  by_cases hc : c = 0
  · subst hc
    by_cases hb : p + n ≤ 8 * s.size
    · have e : bitsR s p 0 n = (num s p n, p + n, 0) := by
        unfold bitsR
        rw [if_neg (fun h => h rfl), if_pos hb]
      have htk := fun w => specTake_yes s p n w hs hn hb
      rw [e]
      clear e
      generalize num s p n = x at htk
      rw [show ((p : Int) + (n : Int)) = ((p + n : Nat) : Int) by omega] at htk
      go_enter Tryz.func83, Tryz.ntmps83
      go_wp2_with fail
      refine (htk _).mono ?_
      rintro e w1 ⟨rfl, hB1⟩
      clear htk
      have h1 := HH.out.called hB1
      have hl1 := h1.lt
      obtain ⟨d0, d1, _⟩ := h1.cells
      have df := h1.free
      have ec : ((p + n : Nat) : Int) = (p : Int) + (n : Int) := by omega
      have HG : Hid (w.grownBy (((w1.setCell ⟨b, 0, none⟩ (.string s)).setCell ⟨b, 1, none⟩ (.int .i64 ((p : Int) + (n : Int)))).alloc (.cells #[.string s, .int .i64 ((p : Int) + (n : Int))] 87)) (some b)) := (((grown_called hB1 _).trans (grown_cell _ b 0 _)).trans (grown_cell _ b 1 _)).trans (World.grownBy_alloc _ _ _)
      have HB : Hid (RB (((w1.setCell ⟨b, 0, none⟩ (.string s)).setCell ⟨b, 1, none⟩ (.int .i64 ((p : Int) + (n : Int)))).alloc (.cells #[.string s, .int .i64 ((p : Int) + (n : Int))] 87)) b s (p + n) vo most 0 vt) := by
        have h := (h1.bits (p + n)).called (bstart _ (.cells #[.string s, .int .i64 ((p : Int) + (n : Int))] 87))
        rw [ec] at h
        exact h
      clear ec
      have hnb : b ≠ w1.heap.size := by omega
      clear hB1 h1
      go_wp2_with fail
      go_ret
      exact ⟨rfl, HB.out, HG.out⟩
    · have e : bitsR s p 0 n = (0, p, 2) := by
        unfold bitsR
        rw [if_neg (fun h => h rfl), if_neg hb]
      have htk := fun w => specTake_no s (p : Int) (n : Int) w (by unfold maxLen; omega) (fun h => hb (by omega))
      rw [e]
      clear e
      go_enter Tryz.func83, Tryz.ntmps83
      go_wp2_with fail
      refine (htk _).mono ?_
      rintro e w1 ⟨rfl, hB1⟩
      clear htk
      have h1 := HH.out.called hB1
      have hl1 := h1.lt
      obtain ⟨_, _, _, _, d4, _⟩ := h1.cells
      have df := h1.free
      have HG : Hid (w.grownBy ((w1.setCell ⟨b, 4, none⟩ (.int .i64 2)).alloc (.cells #[.string ⟨#[]⟩, .int .i64 0] 87)) (some b)) := ((grown_called hB1 _).trans (grown_cell _ b 4 _)).trans (World.grownBy_alloc _ _ _)
      have HB : Hid (RB ((w1.setCell ⟨b, 4, none⟩ (.int .i64 2)).alloc (.cells #[.string ⟨#[]⟩, .int .i64 0] 87)) b s p vo most 2 vt) := (h1.code 2).called (bstart _ _)
      clear hB1 h1
      go_wp2_with fail
      go_ret
      exact ⟨rfl, HB.out, HG.out⟩
  · have e : bitsR s p c n = (0, p, c) := by
      unfold bitsR
      rw [if_pos hc]
    have dc : ((c : Int) != 0) = true := by simp; omega
    rw [e]
    go_enter Tryz.func83, Tryz.ntmps83
    go_wp2_with fail
    go_ret
    exact ⟨rfl, HH.out, grown_called (Below.refl _ _) _⟩

/-- What taking a symbol comes to. -/
noncomputable def symR (f : Nat → Int) (n : Nat) (s : ByteArray) (p c : Nat) : Nat × Nat × Nat := if c ≠ 0 then (0, p, c) else if (symW f n s p).2.2 = 0 then ((symW f n s p).1, p + (symW f n s p).2.1, 0) else if (symW f n s p).2.2 = 2 then (0, p, 2) else (0, p, 6)

set_option maxHeartbeats 1600000 in
theorem l08Sym_any (b : Nat) (s : ByteArray) (p : Nat) (vo : Value) (most c : Nat) (vt : Value) (a1 a2 : Option Addr) (n c1 c2 : Nat) (f : Nat → Int) (w : World) (h : RB w b s p vo most c vt) (hs : s.size ≤ 12000) (hp : p ≤ 8 * s.size) (h1 : Came w a1 n f) (h2 : Came w a2 n (codeOf f n)) (hG : Coded f n) :
    Calls Tryz.prog 125 #[.pointer (some ⟨b, 0, none⟩), .slice a1 n c1, .slice a2 n c2] w fun e w' => e = .returned (.int .i64 ((symR f n s p c).1 : Nat)) ∧ RB w' b s (symR f n s p c).2.1 vo most (symR f n s p c).2.2 vt ∧ w.grownBy w' (some b) := by
  obtain ⟨c0, c1', c2', c3, c4, c5⟩ := h.cells
  have hl := h.lt
  have HH := hid_of h
  clear h c2' c3 c5
  by_cases hc : c = 0
  · subst hc
    have htk := l03Take_way a1 a2 n c1 c2 f s p w h1 h2 hG hs hp
    have hsm := symW_small (f := f) (n := n) (s := s) (a := p)
    have HE : Hid (symR f n s p 0 = if (symW f n s p).2.2 = 0 then ((symW f n s p).1, p + (symW f n s p).2.1, 0) else if (symW f n s p).2.2 = 2 then (0, p, 2) else (0, p, 6)) := by
      show symR f n s p 0 = _
      unfold symR
      rw [if_neg (fun h => h rfl)]
    unfold WayPost wayV at htk
    generalize symW f n s p = W at htk hsm HE
    obtain ⟨y, k, x⟩ := W
    rcases hsm with ⟨hx, hit⟩ | ⟨hx, _⟩ | hx
    · have hx' : x = 0 := hx
      subst hx'
      have hk := hit.2.2.2.2
      rw [if_pos rfl] at htk
      have e : symR f n s p 0 = (y, p + k, 0) := by
        rw [HE.out, if_pos rfl]
      rw [e]
      clear HE e hit
      have htk' : Calls Tryz.prog 159 #[.slice a1 n c1, .slice a2 n c2, .agg #[.string s, .int .i64 (p : Int)]] w fun e w' => Below w.heap.size w w' ∧ e = .returned (.agg #[.int .i64 (y : Int), .string s, .int .i64 ((p + k : Nat) : Int), .int .i64 0]) := by
        rw [show (((p + k : Nat)) : Int) = (p : Int) + (k : Nat) by omega]
        exact htk
      clear htk
      go_enter Tryz.func125, Tryz.ntmps125
      go_wp2_with fail
      refine htk'.mono ?_
      rintro e w1 ⟨hB1, rfl⟩
      clear htk'
      have g1 := HH.out.called hB1
      have hl1 := g1.lt
      obtain ⟨d0, d1, _⟩ := g1.cells
      have df := g1.free
      have ec : ((p + k : Nat) : Int) = (p : Int) + (k : Int) := by omega
      have HGr : Hid (w.grownBy (((w1.setCell ⟨b, 0, none⟩ (.string s)).setCell ⟨b, 1, none⟩ (.int .i64 ((p : Int) + (k : Int)))).alloc (.cells #[.int .i64 (y : Int), .string s, .int .i64 ((p : Int) + (k : Int)), .int .i64 0] 254)) (some b)) := (((grown_called hB1 _).trans (grown_cell _ b 0 _)).trans (grown_cell _ b 1 _)).trans (World.grownBy_alloc _ _ _)
      have HB : Hid (RB (((w1.setCell ⟨b, 0, none⟩ (.string s)).setCell ⟨b, 1, none⟩ (.int .i64 ((p : Int) + (k : Int)))).alloc (.cells #[.int .i64 (y : Int), .string s, .int .i64 ((p : Int) + (k : Int)), .int .i64 0] 254)) b s (p + k) vo most 0 vt) := by
        have h := (g1.bits (p + k)).called (bstart _ (.cells #[.int .i64 (y : Int), .string s, .int .i64 ((p : Int) + (k : Int)), .int .i64 0] 254))
        rw [ec] at h
        exact h
      clear ec
      have hnb : b ≠ w1.heap.size := by omega
      clear hB1 g1
      go_wp2_with fail
      go_ret
      exact ⟨rfl, HB.out, HGr.out⟩
    · have hx' : x = 2 := hx
      subst hx'
      rw [if_neg (by intro h; cases h)] at htk
      have e : symR f n s p 0 = (0, p, 2) := by
        rw [HE.out]
        rfl
      rw [e]
      clear HE e
      go_enter Tryz.func125, Tryz.ntmps125
      go_wp2_with fail
      refine htk.mono ?_
      rintro e w1 ⟨hB1, rfl⟩
      clear htk
      have g1 := HH.out.called hB1
      have hl1 := g1.lt
      obtain ⟨_, _, _, _, d4, _⟩ := g1.cells
      have df := g1.free
      have HGr : Hid (w.grownBy ((w1.setCell ⟨b, 4, none⟩ (.int .i64 2)).alloc (.cells #[.int .i64 0, .string ⟨#[]⟩, .int .i64 0, .int .i64 2] 254)) (some b)) := ((grown_called hB1 _).trans (grown_cell _ b 4 _)).trans (World.grownBy_alloc _ _ _)
      have HB : Hid (RB ((w1.setCell ⟨b, 4, none⟩ (.int .i64 2)).alloc (.cells #[.int .i64 0, .string ⟨#[]⟩, .int .i64 0, .int .i64 2] 254)) b s p vo most 2 vt) := (g1.code 2).called (bstart _ _)
      clear hB1 g1
      go_wp2_with fail
      go_ret
      exact ⟨rfl, HB.out, HGr.out⟩
    · have hx' : x = 1 := hx
      subst hx'
      rw [if_neg (by intro h; cases h)] at htk
      have e : symR f n s p 0 = (0, p, 6) := by
        rw [HE.out]
        rfl
      rw [e]
      clear HE e
      go_enter Tryz.func125, Tryz.ntmps125
      go_wp2_with fail
      refine htk.mono ?_
      rintro e w1 ⟨hB1, rfl⟩
      clear htk
      have g1 := HH.out.called hB1
      have hl1 := g1.lt
      obtain ⟨_, _, _, _, d4, _⟩ := g1.cells
      have df := g1.free
      have HGr : Hid (w.grownBy ((w1.setCell ⟨b, 4, none⟩ (.int .i64 6)).alloc (.cells #[.int .i64 0, .string ⟨#[]⟩, .int .i64 0, .int .i64 1] 254)) (some b)) := ((grown_called hB1 _).trans (grown_cell _ b 4 _)).trans (World.grownBy_alloc _ _ _)
      have HB : Hid (RB ((w1.setCell ⟨b, 4, none⟩ (.int .i64 6)).alloc (.cells #[.int .i64 0, .string ⟨#[]⟩, .int .i64 0, .int .i64 1] 254)) b s p vo most 6 vt) := (g1.code 6).called (bstart _ _)
      clear hB1 g1
      go_wp2_with fail
      go_ret
      exact ⟨rfl, HB.out, HGr.out⟩
  · have e : symR f n s p c = (0, p, c) := by
      unfold symR
      rw [if_pos hc]
    have dc : ((c : Int) != 0) = true := by simp; omega
    rw [e]
    go_enter Tryz.func125, Tryz.ntmps125
    go_wp2_with fail
    go_ret
    exact ⟨rfl, HH.out, grown_called (Below.refl _ _) _⟩

end Go.Proofs.YtbcnlggkoidmmaaGreatDoor

namespace Go.Proofs.YtbcnlggkoidmmaaGreatDoor
open Go.RowKit Go.Joins TokMath InfMath

/-- The row of bytes v holds O. -/
def OR (w : World) (base : Nat) (v : Value) (O : List Int) : Prop := w.ownsRow base 5 1 v O.length (u8l O)
theorem OR.form {w : World} {base : Nat} {v : Value} {O : List Int} (h : OR w base v O) : ∃ a c, v = .slice a O.length c := by
  rcases h.2 with ⟨rfl, h0⟩ | ⟨g, cap, cur, rfl, _⟩
  · exact ⟨none, 0, by rw [h0]⟩
  · exact ⟨_, cap, rfl⟩
theorem OR.cell {w : World} {base : Nat} {v : Value} {O : List Int} (h : OR w base v O) {j : Nat} (hj : j < O.length) : ∃ g cap, v = .slice (some ⟨g, 0, none⟩) O.length cap ∧ g < w.heap.size ∧ w.cell? ⟨g, j, none⟩ = some (.int .u8 (O.getD j 0)) := by
  have h' : w.ownsRow base 5 1 v O.length (u8l O) := h
  obtain ⟨g, cap, rfl, hb, hg⟩ := World.ownsRow.form h' (by omega)
  refine ⟨g, cap, rfl, hg, ?_⟩
  rw [World.ownsRow.cellAt h' j (by omega)]
  unfold u8l
  rw [List.getElem?_map, List.getElem?_eq_getElem hj, List.getD_eq_getElem?_getD, List.getElem?_eq_getElem hj]
  rfl

/-- The whole state: the record in block b, the bytes so far, the types so far. -/
def RS (w0 w : World) (b : Nat) (s : ByteArray) (p : Nat) (O : List Int) (most c : Nat) (Ty : List Int) (vo vt : Value) : Prop :=
  RB w b s p vo most c vt ∧ OR w w0.heap.size vo O ∧ NumRow w w0.heap.size vt Ty ∧ (vo.ownBlock = none ∨ vo.ownBlock ≠ vt.ownBlock) ∧ (vo.ownBlock ≠ some b ∧ vt.ownBlock ≠ some b) ∧ Below w0.heap.size w0 w ∧ w0.heap.size ≤ b
section
variable {w0 w w' : World} {b : Nat} {s : ByteArray} {p : Nat} {O : List Int} {most c : Nat} {Ty : List Int} {vo vt : Value}
theorem RS.lt (h : RS w0 w b s p O most c Ty vo vt) : b < w.heap.size := h.1.lt
/-- What turns the record alone. -/
theorem RS.turned {p' c' : Nat} (h : RS w0 w b s p O most c Ty vo vt) (hr : RB w' b s p' vo most c' vt) (hg : w.grownBy w' (some b)) : RS w0 w' b s p' O most c' Ty vo vt := by
  obtain ⟨_, h2, h3, h4, h5, h6, h7⟩ := h
  exact ⟨hr, World.ownsRow.kept h2 hg (.inr h5.1), World.ownsRow.kept h3 hg (.inr h5.2), h4, h5, h6.grown hg h6.size (fun k e => by cases e; exact h7), h7⟩
theorem RS.called (h : RS w0 w b s p O most c Ty vo vt) (hb : Below w.heap.size w w') : RS w0 w' b s p O most c Ty vo vt := h.turned (h.1.called hb) (grown_called hb _)
theorem RS.setCode (h : RS w0 w b s p O most c Ty vo vt) (x : Nat) : RS w0 (w.setCell ⟨b, 4, none⟩ (.int .i64 (x : Int))) b s p O most x Ty vo vt := h.turned (h.1.code x) (grown_cell _ _ _ _)
theorem RS.setBits (h : RS w0 w b s p O most c Ty vo vt) (q : Nat) : RS w0 ((w.setCell ⟨b, 0, none⟩ (.string s)).setCell ⟨b, 1, none⟩ (.int .i64 (q : Int))) b s q O most c Ty vo vt := h.turned (h.1.bits q) ((grown_cell _ _ _ _).trans (grown_cell _ _ _ _))
theorem RS.drewN (h : RS w0 w b s p O most c Ty vo vt) (k : Nat) : RS w0 (w.drewN k) b s p O most c Ty vo vt := h.called ⟨rfl, rfl, rfl, Nat.le_refl _, fun _ _ => rfl⟩
/-- A byte is put behind: the row, then the record. -/
theorem RS.more {o : Obj} {g cap : Nat} {x : Int} (h : RS w0 w b s p O most c Ty vo vt) (y1 : w'.ownsRow w0.heap.size 5 1 (.slice (some ⟨g, 0, none⟩) (O.length + 1) cap) (O.length + 1) (u8l O ++ [.int .u8 x])) (y2 : (w.alloc o).grownBy w' vo.ownBlock) (y3 : vo.ownBlock = some g ∨ g = w.heap.size + 1) :
    RB w' b s p vo most c vt ∧ RS w0 (w'.setCell ⟨b, 2, none⟩ (.slice (some ⟨g, 0, none⟩) (O.length + 1) cap)) b s p (O ++ [x]) most c Ty (.slice (some ⟨g, 0, none⟩) (O.length + 1) cap) vt := by
  obtain ⟨h1, h2, h3, h4, h5, h6, h7⟩ := h
  have hlt := h1.lt
  have hsz : w.heap.size + 1 = (w.alloc o).heap.size := (World.size_alloc _ _).symm
  have hk : w'.heap[b]? = w.heap[b]? := (y2.block b (by omega) (fun e => h5.1 e.symm)).trans ((bstart w o).block b hlt)
  have hr : RB w' b s p vo most c vt := hk.trans h1
  have hgl := World.ownsRow.lt y1 g rfl
  have hgb : g ≠ b := by
    rcases y3 with q | q
    · intro e
      exact h5.1 (by rw [q, e])
    · omega
  have hvt : vt.ownBlock = none ∨ vt.ownBlock ≠ vo.ownBlock := by
    cases e : vt.ownBlock with
    | none => exact .inl rfl
    | some k =>
      refine .inr (fun e1 => ?_)
      rcases h4 with q | q
      · rw [q] at e1
        cases e1
      · exact q (by rw [← e1, e])
  have hty := World.ownsRow.kept (World.ownsRow.alloc h3 o) y2 hvt
  have hgs := grown_cell w' b 2 (.slice (some ⟨g, 0, none⟩) (O.length + 1) cap)
  refine ⟨hr, ?_, ?_, World.ownsRow.kept hty hgs (.inr h5.2), ?_, ⟨?_, h5.2⟩, ?_, h7⟩
  · have := block_setCell (i := 2) hr (.slice (some ⟨g, 0, none⟩) (O.length + 1) cap)
    unfold RB
    simpa using this
  · have e : OR w' w0.heap.size (.slice (some ⟨g, 0, none⟩) (O.length + 1) cap) (O ++ [x]) := by
      unfold OR
      rw [List.length_append, List.length_singleton, ← u8l_app]
      exact y1
    exact World.ownsRow.kept e hgs (.inr (by simpa [Value.ownBlock] using hgb))
  · refine .inr (fun e => ?_)
    have e' : vt.ownBlock = some g := e.symm
    rcases y3 with q | q
    · rcases hvt with q' | q'
      · rw [q'] at e'
        cases e'
      · exact q' (by rw [e', q])
    · have := (World.ownsRow.lt h3 g e').2
      omega
  · simpa [Value.ownBlock] using hgb
  · exact ((h6.alloc h6.size o).grown y2 (Nat.le_trans h6.size (by omega)) (fun k e => (World.ownsRow.lt h2 k e).1)).setCell (p := ⟨b, 2, none⟩) h7 _
end

end Go.Proofs.YtbcnlggkoidmmaaGreatDoor

namespace Go.Proofs.YtbcnlggkoidmmaaGreatDoor
open CodeMath InfMath

theorem fixed1_coded : Coded fixed1 288 := by
  refine ⟨by decide, fun i _ => ?_, ?_⟩
  · unfold fixed1
    repeat' split
    all_goals omega
  · decide +kernel
theorem fixed2_coded : Coded fixed2 32 := by
  refine ⟨by decide, fun i _ => ?_, ?_⟩
  · unfold fixed2
    omega
  · decide +kernel
end Go.Proofs.YtbcnlggkoidmmaaGreatDoor

namespace Go.Proofs.YtbcnlggkoidmmaaGreatDoor
open Go.RowKit Go.Joins

theorem nums_append1 {w : World} {S : Nat} {v : Value} {xs : List Int} {ops : Array Oper} {rest : List Oper} {o : Oper} {a : Act} {Q : Exit → Act → World → Prop} (hgd : o.guard = none) (s x : Operand)
    (ho : o.op = .call { callee := .builtin .append, args := #[s, x], argTypes := #[26, 26] }) (hs : a.eval s = v) (h : NumRow w S v xs) (g c : Nat) (y : Int) (hx : a.eval x = .slice (some ⟨g, 0, none⟩) 1 c) (hy : w.cell? ⟨g, 0, none⟩ = some (.int .i64 y))
    (h63 : xs.length ≤ 100000) (hS : S ≤ w.heap.size)
    (hK : ∀ v' w', NumRow w' S v' (xs ++ [y]) → w.grownBy w' v.ownBlock → (v'.ownBlock = v.ownBlock ∨ v'.ownBlock = some w.heap.size) → wpList Tryz.prog ops Q rest (a.put o.dst v') w') : wpList Tryz.prog ops Q (o :: rest) a w := by
  obtain ⟨i0, hi0, hz0, hz1, hz2⟩ := info_parts info_int
  refine wpList_append_own_at w hgd s x _ ho S 3 i0 _ 1 8 Tryz.underlying26 hi0 hz0 hz1 hz2 rfl (by omega) v _ _ hs h ⟨g, 0, none⟩ 1 c (ivals [y]) hx rfl (fun j u hu => ?_) (ivals_one _) (by unfold maxLen; omega) (by omega) hS ?_
  · cases j with
    | zero =>
      simp [ivals] at hu
      rw [← hu]
      exact hy
    | succ j => simp [ivals] at hu
  · intro v' w' hown hg _ hk
    refine hK v' w' ?_ hg hk
    show w'.ownsRow S 3 1 v' (xs ++ [y]).length (ivals (xs ++ [y]))
    rw [List.length_append, ivals_app]
    exact hown
end Go.Proofs.YtbcnlggkoidmmaaGreatDoor

namespace Go.Proofs.YtbcnlggkoidmmaaGreatDoor
open Go.RowKit Go.Joins TokMath

theorem NumRow.nil (w : World) (S : Nat) : NumRow w S (.slice none 0 0) [] := ⟨rfl, .inl ⟨rfl, rfl⟩⟩
theorem OR.nil (w : World) (S : Nat) : OR w S (.slice none 0 0) [] := ⟨rfl, .inl ⟨rfl, rfl⟩⟩
end Go.Proofs.YtbcnlggkoidmmaaGreatDoor

namespace Go.Proofs.YtbcnlggkoidmmaaGreatDoor
open Go.RowKit Go.Joins OutMath

set_option maxHeartbeats 400000 in
theorem specNext_yes (s : ByteArray) (a : Int) (w : World) (h1 : s.size ≤ 12000) (h2 : 0 ≤ a) (h3 : a ≤ 8 * s.size) :
    Calls Tryz.prog 124 #[.agg #[.string s, .int .i64 a]] w fun e w' => e = .returned (.tuple #[.agg #[.string s, .int .i64 (8 * ((a + 7) / 8))], .bool true]) ∧ Below w.heap.size w w' := by
  have d1 : decide ((12000 : Int) < s.size) = false := by simp; omega
  have ec : (a + 7) / 8 * 8 = 8 * ((a + 7) / 8) := Int.mul_comm _ _
  go_enter Tryz.func124, Tryz.ntmps124
  go_wp2_with fail
  refine (in_yes _ _ _ _ (by omega) (by omega)).mono ?_
  rintro e w1 ⟨rfl, rfl⟩
  go_wp2_with fail
  refine bodyPost_ret (v := .tuple #[.agg #[.string s, .int .i64 (8 * ((a + 7) / 8))], .bool true]) (by simp [results, Tryz.results124, go_sem]) rfl ⟨rfl, bal (bstart _ _) _⟩

end Go.Proofs.YtbcnlggkoidmmaaGreatDoor
