/-
  The walk of the document's model of the symbols of a block, where a code is met already: nothing is done.
  The walk of the document's model: in which order the lengths of the third code come.
  Three numbers of bits, one behind the other; the codes of lengths, whatever they are.
  The walk of the document's model of the lengths of a block of type 2, where a code is met ahead of the third code's lengths.
  The third code's lengths beside an unpacking under way.
  The lengths that Runs tell, beside an unpacking under way and the third code.
  The walks of the document's model of Runs: how often a length follows, and the Runs of lengths.
-/
import Derived.Test.YtbcnlggkoidmmaaGreatDoorPk12
import Derived.Test.YtbcnlggkoidmmaaGreatDoorRows
import Derived.Test.YtbcnlggkoidmmaaGreatDoorPk01
import Derived.Test.YtbcnlggkoidmmaaGreatDoorPk06
import Derived.Test.YtbcnlggkoidmmaaGreatDoorPk04
import Derived.Test.YtbcnlggkoidmmaaGreatDoorPk07
import Derived.Test.YtbcnlggkoidmmaaGreatDoorPk03
import Derived.Test.YtbcnlggkoidmmaaGreatDoorPk05
import Derived.WalkKit
import Derived.ProofKit
import Derived.WalkLawsBesides
import Derived.OwnWalk
import Derived.Below
import Derived.Lib.SmallJoins
import Derived.Deep.LoopGhost
namespace Go.Proofs.YtbcnlggkoidmmaaGreatDoor
open Go.RowKit Go.Joins OutMath CodeMath InfMath

theorem coded_none (f : Nat → Int) : Coded f 0 := ⟨by omega, fun i hi => absurd hi (by omega), by show (0 : Int) ≤ 32768; decide⟩
set_option maxRecDepth 100000 in
set_option maxHeartbeats 3200000 in
theorem l08Symbols_bad (w0 : World) (b : Nat) (s : ByteArray) (p : Nat) (O : List Int) (most c : Nat) (Ty : List Int) (vo vt : Value) (a1 : Option Addr) (c1 : Nat) (a2 : Option Addr) (c2 : Nat) (w : World) (h : RS w0 w b s p O most c Ty vo vt) (hc : c ≠ 0) :
    Calls Tryz.prog 86 #[.pointer (some ⟨b, 0, none⟩), .slice a1 0 c1, .slice a2 0 c2] w fun e w' => e = .returned (.tuple #[]) ∧ RS w0 w' b s p O most c Ty vo vt := by
  have HH := hid_of h
  have hl := h.lt
  have hc1 := specCodes_good a1 0 c1 (fun _ => 0) w (.inl rfl) (coded_none _)
  clear h
  go_enter Tryz.func86, Tryz.ntmps86
  go_wp2_with fail
  refine hc1.mono ?_
  rintro e w1 ⟨rfl, _, hB1⟩
  clear hc1
  have hc2 := specCodes_good a2 0 c2 (fun _ => 0) w1 (.inl rfl) (coded_none _)
  go_wp2_with fail
  refine hc2.mono ?_
  rintro e w2 ⟨rfl, _, hB2⟩
  clear hc2
  have HS := hid_of ((HH.out.called hB1).called hB2)
  clear hB1 hB2 HH
  go_wp2_with fail
  go_loopg [] 1 (fun _ w' => Hid (RS w0 w' b s p O most c Ty vo vt))
  case atStart => exact HS
  case round =>
    clear HS
    have k4 : wr.cell? ⟨b, 4, none⟩ = some (.int .i64 (c : Int)) := hrel.out.1.cells.2.2.2.2.1
    have dc : ((c : Int) == 0) = false := by simp; omega
    go_wp2_with fail
    go_end0
    exact ⟨rfl, hrel.out⟩

end Go.Proofs.YtbcnlggkoidmmaaGreatDoor

namespace Go.Proofs.YtbcnlggkoidmmaaGreatDoor
open Go.RowKit Go.Joins InfMath

theorem order_cells (w : World) : ∀ i, i < 19 → (w.alloc (.cells #[.int .i64 16, .int .i64 17, .int .i64 18, .int .i64 0, .int .i64 8, .int .i64 7, .int .i64 9, .int .i64 6, .int .i64 10, .int .i64 5, .int .i64 11, .int .i64 4, .int .i64 12, .int .i64 3, .int .i64 13, .int .i64 2, .int .i64 14, .int .i64 1, .int .i64 15] 3)).cell? ⟨w.heap.size, i, none⟩ = some (.int .i64 ((orderL.getD i 0 : Nat) : Int)) := by
  intro i hi
  rw [cell_of_block (heap_alloc_new w _) i]
  have key : ∀ i, i < 19 → (#[Value.int .i64 16, .int .i64 17, .int .i64 18, .int .i64 0, .int .i64 8, .int .i64 7, .int .i64 9, .int .i64 6, .int .i64 10, .int .i64 5, .int .i64 11, .int .i64 4, .int .i64 12, .int .i64 3, .int .i64 13, .int .i64 2, .int .i64 14, .int .i64 1, .int .i64 15] : Array Value)[i]? = some (.int .i64 ((orderL.getD i 0 : Nat) : Int)) := by
    intro i hi
    match i, hi with
    | 0, _ => rfl
    | 1, _ => rfl
    | 2, _ => rfl
    | 3, _ => rfl
    | 4, _ => rfl
    | 5, _ => rfl
    | 6, _ => rfl
    | 7, _ => rfl
    | 8, _ => rfl
    | 9, _ => rfl
    | 10, _ => rfl
    | 11, _ => rfl
    | 12, _ => rfl
    | 13, _ => rfl
    | 14, _ => rfl
    | 15, _ => rfl
    | 16, _ => rfl
    | 17, _ => rfl
    | 18, _ => rfl
    | k + 19, h => exact absurd h (by omega)
  exact key i hi

set_option maxHeartbeats 800000 in
theorem specOrder (w : World) :
    Calls Tryz.prog 48 #[] w fun e w' => e = .returned (.slice (some ⟨w.heap.size, 0, none⟩) 19 19) ∧ w.heap.size < w'.heap.size ∧ Below w.heap.size w w' ∧ ∀ i, i < 19 → w'.cell? ⟨w.heap.size, i, none⟩ = some (.int .i64 ((orderL.getD i 0 : Nat) : Int)) := by
  have HZ := hid_of (order_cells w)
  go_enter Tryz.func48, Tryz.ntmps48
  go_wp2_with fail
  go_ret
  exact ⟨rfl, by simp, bstart _ _, HZ.out⟩

end Go.Proofs.YtbcnlggkoidmmaaGreatDoor

namespace Go.Proofs.YtbcnlggkoidmmaaGreatDoor
open Go.RowKit Go.Joins OutMath CodeMath TakeMath InfMath

theorem bitsR_small (s : ByteArray) (p c n : Nat) (hp : p ≤ 8 * s.size) : 0 ≤ (bitsR s p c n).1 ∧ (bitsR s p c n).1 < p2 n ∧ (bitsR s p c n).2.1 ≤ 8 * s.size ∧ p ≤ (bitsR s p c n).2.1 := by
  have h := num_bd s p n
  have h1 := p2_pos n
  unfold bitsR
  by_cases hc : c = 0
  · subst hc
    rw [if_neg (fun h => h rfl)]
    by_cases hb : p + n ≤ 8 * s.size
    · rw [if_pos hb]
      exact ⟨h.1, h.2, hb, by show p ≤ p + n; omega⟩
    · rw [if_neg hb]
      exact ⟨Int.le_refl _, by show (0 : Int) < p2 n; omega, hp, Nat.le_refl _⟩
  · rw [if_pos hc]
    exact ⟨Int.le_refl _, by show (0 : Int) < p2 n; omega, hp, Nat.le_refl _⟩
theorem three_bits (s : ByteArray) (p : Nat) : (p + 14 ≤ 8 * s.size ∧ bitsR s p 0 5 = (num s p 5, p + 5, 0) ∧ bitsR s (p + 5) 0 5 = (num s (p + 5) 5, p + 10, 0) ∧ bitsR s (p + 10) 0 4 = (num s (p + 10) 4, p + 14, 0)) ∨
    (¬ p + 14 ≤ 8 * s.size ∧ (bitsR s (bitsR s (bitsR s p 0 5).2.1 (bitsR s p 0 5).2.2 5).2.1 (bitsR s (bitsR s p 0 5).2.1 (bitsR s p 0 5).2.2 5).2.2 4).2.2 = 2) := by
  by_cases h : p + 14 ≤ 8 * s.size
  · exact .inl ⟨h, bitsR_ok (by omega), bitsR_ok (by omega), bitsR_ok (by omega)⟩
  · refine .inr ⟨h, ?_⟩
    by_cases h5 : p + 5 ≤ 8 * s.size
    · rw [bitsR_ok h5]
      dsimp only
      by_cases h10 : p + 5 + 5 ≤ 8 * s.size
      · rw [bitsR_ok h10]
        dsimp only
        rw [bitsR_end (by omega)]
      · rw [bitsR_end h10]
        dsimp only
        rw [bitsR_bad (by decide)]
    · rw [bitsR_end h5]
      dsimp only
      rw [bitsR_bad (s := s) (p := p) (c := 2) (n := 5) (by decide)]
      dsimp only
      rw [bitsR_bad (by decide)]
theorem specCodes_some (a : Option Addr) (n cap : Nat) (f : Nat → Int) (w : World) (hC : Came w a n f) (hn : n ≤ 1048576) :
    Calls Tryz.prog 51 #[.slice a n cap] w fun e w' => ∃ m x, e = .returned (.tuple #[.slice (some ⟨w.heap.size, 0, none⟩) m m, .bool x]) ∧ Below w.heap.size w w' ∧ w.heap.size < w'.heap.size ∧ (Coded f n → m = n ∧ IOwn w' w.heap.size w.heap.size n n (codeOf f n)) := by
  by_cases h : Coded f n
  · refine (specCodes_good a n cap f w hC h).mono ?_
    rintro e w' ⟨rfl, h1, h2⟩
    exact ⟨n, true, rfl, h2, h1.lt, fun _ => ⟨rfl, h1⟩⟩
  · refine (specCodes_bad a n cap f w hC hn h).mono ?_
    rintro e w' ⟨rfl, h1, h2⟩
    exact ⟨0, false, rfl, h2, h1, fun q => absurd q h⟩

end Go.Proofs.YtbcnlggkoidmmaaGreatDoor

namespace Go.Proofs.YtbcnlggkoidmmaaGreatDoor
open Go.RowKit Go.Joins OutMath CodeMath TakeMath InfMath

/-- What is left where a code is met. -/
def TabBad (w0 : World) (b : Nat) (s : ByteArray) (O : List Int) (most : Nat) (Ty : List Int) (vo vt : Value) (c : Nat) (e : Ending) (w' : World) : Prop :=
  ∃ p' a1 c1 a2 c2, e = .returned (.tuple #[.slice a1 0 c1, .slice a2 0 c2]) ∧ RS w0 w' b s p' O most c Ty vo vt ∧ p' ≤ 8 * s.size

set_option maxRecDepth 100000 in
set_option maxHeartbeats 3200000 in
theorem l08Tables_short (w0 : World) (b : Nat) (s : ByteArray) (p : Nat) (O : List Int) (most : Nat) (Ty : List Int) (vo vt : Value) (w : World) (h : RS w0 w b s p O most 0 Ty vo vt) (hs : s.size ≤ 12000) (hp : p ≤ 8 * s.size) (hsh : ¬ p + 14 ≤ 8 * s.size) :
    Calls Tryz.prog 87 #[.pointer (some ⟨b, 0, none⟩)] w (TabBad w0 b s O most Ty vo vt 2) := by
  have hb1 := l08Bits_any b s p vo most 0 vt 5 w h.1 hs hp (by omega)
  have q1 := bitsR_small s p 0 5 hp
  have hc3 : (bitsR s (bitsR s (bitsR s p 0 5).2.1 (bitsR s p 0 5).2.2 5).2.1 (bitsR s (bitsR s p 0 5).2.1 (bitsR s p 0 5).2.2 5).2.2 4).2.2 = 2 := by
    rcases three_bits s p with ⟨q, _⟩ | ⟨_, q⟩
    · exact absurd q hsh
    · exact q
  rw [show p2 5 = 32 by decide +kernel] at q1
  generalize bitsR s p 0 5 = r1 at hb1 q1 hc3
  obtain ⟨x, p1, c1⟩ := r1
  dsimp only at hb1 q1 hc3
  have q2 := bitsR_small s p1 c1 5 q1.2.2.1
  have hb2 := fun (w : World) (h : RB w b s p1 vo most c1 vt) => l08Bits_any b s p1 vo most c1 vt 5 w h hs q1.2.2.1 (by omega)
  rw [show p2 5 = 32 by decide +kernel] at q2
  generalize bitsR s p1 c1 5 = r2 at hb2 q2 hc3
  obtain ⟨y, p2', c2⟩ := r2
  dsimp only at hb2 q2 hc3
  have q3 := bitsR_small s p2' c2 4 q2.2.2.1
  have hb3 := fun (w : World) (h : RB w b s p2' vo most c2 vt) => l08Bits_any b s p2' vo most c2 vt 4 w h hs q2.2.2.1 (by omega)
  rw [show p2 4 = 16 by decide +kernel] at q3
  generalize bitsR s p2' c2 4 = r3 at hb3 q3 hc3
  obtain ⟨z, p3, c3⟩ := r3
  dsimp only at hb3 q3 hc3
  subst hc3
  have HH := hid_of h
  have HB2 := hid_of hb2
  have HB3 := hid_of hb3
  have HP3 := hid_of q3.2.2.1
  have hx0 := q1.1
  have hx1 := q1.2.1
  have hy0 := q2.1
  have hy1 := q2.2.1
  have hz0 := q3.1
  have hz1 := q3.2.1
  clear h hb2 hb3 q1 q2 q3
  have e1 : IntKind.i64.wrap (x + 257) = x + 257 := by
    rw [IntKind.wrap_i64]
    omega
  have e2 : IntKind.i64.wrap (y + 1) = y + 1 := by
    rw [IntKind.wrap_i64]
    omega
  have e3 : IntKind.i64.wrap (z + 4) = z + 4 := by
    rw [IntKind.wrap_i64]
    omega
  have e4 : IntKind.i64.wrap (x + 257 + (y + 1)) = x + 257 + (y + 1) := by
    rw [IntKind.wrap_i64]
    omega
  go_enter Tryz.func87, Tryz.ntmps87
  go_wp2_with fail
  refine hb1.mono ?_
  rintro e w1 ⟨rfl, hR1, hg1⟩
  have HS1 := hid_of (HH.out.turned hR1 hg1)
  have hf2 := HB2.out w1 hR1
  clear hb1 hR1 hg1 HH HB2
  go_wp2_with fail
  refine hf2.mono ?_
  rintro e w2 ⟨rfl, hR2, hg2⟩
  have HS2 := hid_of (HS1.out.turned hR2 hg2)
  have hf3 := HB3.out w2 hR2
  clear hf2 hR2 hg2 HS1 HB3
  go_wp2_with fail
  refine hf3.mono ?_
  rintro e w3 ⟨rfl, hR3, hg3⟩
  have HS3 : Hid (RS w0 w3 b s p3 O most 2 Ty vo vt) := HS2.out.turned hR3 hg3
  have k4 : w3.cell? ⟨b, 4, none⟩ = some (.int .i64 2) := hR3.cells.2.2.2.2.1
  have hl3 := HS3.out.lt
  clear hf3 hR3 hg3 HS2
  have hmk := make_cells w3 19 (by omega)
  rw [show ((19 : Nat) : Int) = 19 from rfl] at hmk
  have dk : ((2 : Int) == 0) = false := by decide
  have HW := hid_of (bstart w3 (.cells (madeCells #[Value.int .i64 0] 19) 3))
  have HI := hid_of (IOwn.made (base := w3.heap.size) w3 19 (by unfold maxLen; omega) (Nat.le_refl _))
  have HS4 := hid_of (HS3.out.called HW.out)
  generalize w3.alloc (.cells (madeCells #[Value.int .i64 0] 19) 3) = W4 at hmk HS4 HW HI
  go_wp2_with fail
  go_loopg [8] 1 (fun _ v w' => v = .int .i64 0 ∧ Hid (w' = W4))
  case atStart => exact ⟨rfl, rfl⟩
  case round =>
    obtain ⟨rfl, HE⟩ := hrel
    have hE : wr = W4 := HE.out
    subst hE
    clear HE
    have d1 : decide ((0 : Int) < z + 4) = true := decide_eq_true (by omega)
    have k5 : wr.cell? ⟨b, 4, none⟩ = some (.int .i64 2) := HS4.out.1.cells.2.2.2.2.1
    have hco := specCodes_some (some ⟨w3.heap.size, 0, none⟩) 19 19 (fun _ => 0) wr (HI.out.sl).came (by omega)
    go_wp2_with fail
    refine hco.mono ?_
    rintro e w5 ⟨m5, x5, rfl, hB5, _, _⟩
    have HS5 := hid_of (HS4.out.called hB5)
    clear hco hB5 HS4 k5 HI HW
    have HS6 := hid_of (HS5.out.called (bstart w5 (.cells #[] 3)))
    go_wp2_with fail
    generalize w5.alloc (.cells #[] 3) = W6 at HS6
    go_loopg [11] 1 (fun _ v w' => v = .slice (some ⟨w5.heap.size, 0, none⟩) 0 0 ∧ Hid (w' = W6))
    case atStart => exact ⟨rfl, rfl⟩
    case round =>
      obtain ⟨rfl, HE⟩ := hrel
      have hE : wr = W6 := HE.out
      subst hE
      clear HE
      have d2 : decide ((0 : Int) < x + 257 + (y + 1)) = true := decide_eq_true (by omega)
      have k5 : wr.cell? ⟨b, 4, none⟩ = some (.int .i64 2) := HS6.out.1.cells.2.2.2.2.1
      have dk2 : ((2 : Int) != 0) = true := by decide
      have HZ : ∀ o1 o2, Hid (RS w0 ((wr.alloc o1).alloc o2) b s p3 O most 2 Ty vo vt) := fun o1 o2 => (HS6.out.called (bstart _ _)).called (bstart _ _)
      go_wp2_with fail
      go_ret2
      exact ⟨p3, _, _, _, _, rfl, (HZ _ _).out, HP3.out⟩


set_option maxRecDepth 100000 in
set_option maxHeartbeats 3200000 in
theorem l08Tables_over (w0 : World) (b : Nat) (s : ByteArray) (p : Nat) (O : List Int) (most : Nat) (Ty : List Int) (vo vt : Value) (w : World) (h : RS w0 w b s p O most 0 Ty vo vt) (hs : s.size ≤ 12000) (hp : p ≤ 8 * s.size) (h14 : p + 14 ≤ 8 * s.size) (hov : 29 < num s p 5 ∨ 29 < num s (p + 5) 5) :
    Calls Tryz.prog 87 #[.pointer (some ⟨b, 0, none⟩)] w (TabBad w0 b s O most Ty vo vt 5) := by
  have hb1 := l08Bits_any b s p vo most 0 vt 5 w h.1 hs hp (by omega)
  have hb2 := fun (w : World) (h : RB w b s (p + 5) vo most 0 vt) => l08Bits_any b s (p + 5) vo most 0 vt 5 w h hs (by omega) (by omega)
  have hb3 := fun (w : World) (h : RB w b s (p + 10) vo most 0 vt) => l08Bits_any b s (p + 10) vo most 0 vt 4 w h hs (by omega) (by omega)
  rw [bitsR_ok (by omega)] at hb1
  rw [bitsR_ok (show p + 5 + 5 ≤ 8 * s.size by omega), show p + 5 + 5 = p + 10 by omega] at hb2
  rw [bitsR_ok (show p + 10 + 4 ≤ 8 * s.size by omega), show p + 10 + 4 = p + 14 by omega] at hb3
  have q1 := num_bd s p 5
  have q2 := num_bd s (p + 5) 5
  have q3 := num_bd s (p + 10) 4
  rw [show p2 5 = 32 by decide +kernel] at q1 q2
  rw [show p2 4 = 16 by decide +kernel] at q3
  generalize num s p 5 = x at hb1 q1 hov
  generalize num s (p + 5) 5 = y at hb2 q2 hov
  generalize num s (p + 10) 4 = z at hb3 q3
  have HH := hid_of h
  have HB2 := hid_of hb2
  have HB3 := hid_of hb3
  have HP3 := hid_of h14
  have hx0 := q1.1
  have hx1 := q1.2
  have hy0 := q2.1
  have hy1 := q2.2
  have hz0 := q3.1
  have hz1 := q3.2
  clear h hb2 hb3 q1 q2 q3
  have e1 : IntKind.i64.wrap (x + 257) = x + 257 := by
    rw [IntKind.wrap_i64]
    omega
  have e2 : IntKind.i64.wrap (y + 1) = y + 1 := by
    rw [IntKind.wrap_i64]
    omega
  have e3 : IntKind.i64.wrap (z + 4) = z + 4 := by
    rw [IntKind.wrap_i64]
    omega
  have e4 : IntKind.i64.wrap (x + 257 + (y + 1)) = x + 257 + (y + 1) := by
    rw [IntKind.wrap_i64]
    omega
  go_enter Tryz.func87, Tryz.ntmps87
  go_wp2_with fail
  refine hb1.mono ?_
  rintro e w1 ⟨rfl, hR1, hg1⟩
  have HS1 := hid_of (HH.out.turned hR1 hg1)
  have hf2 := HB2.out w1 hR1
  clear hb1 hR1 hg1 HH HB2
  go_wp2_with fail
  refine hf2.mono ?_
  rintro e w2 ⟨rfl, hR2, hg2⟩
  have HS2 := hid_of (HS1.out.turned hR2 hg2)
  have hf3 := HB3.out w2 hR2
  clear hf2 hR2 hg2 HS1 HB3
  go_wp2_with fail
  refine hf3.mono ?_
  rintro e w3 ⟨rfl, hR3, hg3⟩
  have HS3 : Hid (RS w0 (w3.setCell ⟨b, 4, none⟩ (.int .i64 5)) b s (p + 14) O most 5 Ty vo vt) := (HS2.out.turned hR3 hg3).setCode 5
  have k4 : w3.cell? ⟨b, 4, none⟩ = some (.int .i64 0) := hR3.cells.2.2.2.2.1
  have fz := hR3.free
  have hl3 := hR3.lt
  obtain ⟨W3, hW3⟩ : ∃ W, W = w3.setCell ⟨b, 4, none⟩ (.int .i64 5) := ⟨_, rfl⟩
  rw [← hW3] at HS3
  have HW3 := hid_of hW3
  clear hW3
  clear hf3 hR3 hg3 HS2
  have hmk := make_cells W3 19 (by omega)
  rw [show ((19 : Nat) : Int) = 19 from rfl] at hmk
  have dk : ((5 : Int) == 0) = false := by decide
  have HW := hid_of (bstart W3 (.cells (madeCells #[Value.int .i64 0] 19) 3))
  have HI := hid_of (IOwn.made (base := W3.heap.size) W3 19 (by unfold maxLen; omega) (Nat.le_refl _))
  have HS4 := hid_of (HS3.out.called HW.out)
  generalize W3.alloc (.cells (madeCells #[Value.int .i64 0] 19) 3) = W4 at hmk HS4 HW HI
  have hz3 : W3.heap.size = w3.heap.size := by
    rw [HW3.out]
    simp [World.setCell]
  rw [hz3] at HI hmk
  rw [HW3.out] at hmk
  clear hz3
  by_cases hxx : 29 < x
  case' pos => have o1 : decide ((286 : Int) < x + 257) = true := decide_eq_true (by omega)
  case' neg => have o1 : decide ((286 : Int) < x + 257) = false := decide_eq_false (by omega)
  case' neg => have o2 : decide ((30 : Int) < y + 1) = true := decide_eq_true (by omega)
  all_goals
   go_wp2_with fail
   go_loopg [8] 1 (fun _ v w' => v = .int .i64 0 ∧ Hid (w' = W4))
   case atStart => exact ⟨rfl, rfl⟩
   case round =>
     obtain ⟨rfl, HE⟩ := hrel
     have hE : wr = W4 := HE.out
     subst hE
     clear HE
     have d1 : decide ((0 : Int) < z + 4) = true := decide_eq_true (by omega)
     have k5 : wr.cell? ⟨b, 4, none⟩ = some (.int .i64 5) := HS4.out.1.cells.2.2.2.2.1
     have hco := specCodes_some (some ⟨w3.heap.size, 0, none⟩) 19 19 (fun _ => 0) wr (HI.out.sl).came (by omega)
     go_wp2_with fail
     refine hco.mono ?_
     rintro e w5 ⟨m5, x5, rfl, hB5, _, _⟩
     have HS5 := hid_of (HS4.out.called hB5)
     clear hco hB5 HS4 k5 HI HW
     have HS6 := hid_of (HS5.out.called (bstart w5 (.cells #[] 3)))
     go_wp2_with fail
     generalize w5.alloc (.cells #[] 3) = W6 at HS6
     go_loopg [11] 1 (fun _ v w' => v = .slice (some ⟨w5.heap.size, 0, none⟩) 0 0 ∧ Hid (w' = W6))
     case atStart => exact ⟨rfl, rfl⟩
     case round =>
       obtain ⟨rfl, HE⟩ := hrel
       have hE : wr = W6 := HE.out
       subst hE
       clear HE
       have d2 : decide ((0 : Int) < x + 257 + (y + 1)) = true := decide_eq_true (by omega)
       have k5 : wr.cell? ⟨b, 4, none⟩ = some (.int .i64 5) := HS6.out.1.cells.2.2.2.2.1
       have dk2 : ((5 : Int) != 0) = true := by decide
       have HZ : ∀ o1 o2, Hid (RS w0 ((wr.alloc o1).alloc o2) b s (p + 14) O most 5 Ty vo vt) := fun o1 o2 => (HS6.out.called (bstart _ _)).called (bstart _ _)
       go_wp2_with fail
       go_ret2
       exact ⟨p + 14, _, _, _, _, rfl, (HZ _ _).out, HP3.out⟩

end Go.Proofs.YtbcnlggkoidmmaaGreatDoor

namespace Go.Proofs.YtbcnlggkoidmmaaGreatDoor
open Go.RowKit Go.Joins OutMath CodeMath TakeMath InfMath

/-- The state, and the third code's lengths in block g3. -/
def ThI (w0 w : World) (b : Nat) (s : ByteArray) (p : Nat) (O : List Int) (most c : Nat) (Ty : List Int) (vo vt : Value) (g3 : Nat) (F : Nat → Int) : Prop :=
  RS w0 w b s p O most c Ty vo vt ∧ IOwn w g3 g3 19 19 F ∧ g3 ≠ b ∧ vo.ownBlock ≠ some g3 ∧ vt.ownBlock ≠ some g3 ∧ w0.heap.size ≤ g3
section
variable {w0 w w' : World} {b : Nat} {s : ByteArray} {p : Nat} {O : List Int} {most c : Nat} {Ty : List Int} {vo vt : Value} {g3 : Nat} {F : Nat → Int}
theorem ThI.turned {p' c' : Nat} (h : ThI w0 w b s p O most c Ty vo vt g3 F) (hr : RB w' b s p' vo most c' vt) (hg : w.grownBy w' (some b)) : ThI w0 w' b s p' O most c' Ty vo vt g3 F :=
  ⟨h.1.turned hr hg, h.2.1.grown hg (fun e => h.2.2.1 (by cases e; rfl)), h.2.2⟩
theorem ThI.called (h : ThI w0 w b s p O most c Ty vo vt g3 F) (hb : Below w.heap.size w w') : ThI w0 w' b s p O most c Ty vo vt g3 F := h.turned (h.1.1.called hb) (grown_called hb _)
theorem ThI.set (h : ThI w0 w b s p O most c Ty vo vt g3 F) (j : Nat) (hj : j < 19) (x : Int) : ThI w0 (w.setCell ⟨g3, j, none⟩ (.int .i64 x)) b s p O most c Ty vo vt g3 (upd F j x) := by
  obtain ⟨⟨h1, h2, h3, h4, h5, h6, h7⟩, hI, hb, hv, ht, hw⟩ := h
  have hg := grown_cell w g3 j (.int .i64 x)
  refine ⟨⟨?_, World.ownsRow.kept h2 hg (.inr hv), World.ownsRow.kept h3 hg (.inr ht), h4, h5, h6.setCell (p := ⟨g3, j, none⟩) hw _, h7⟩, hI.set j hj x, hb, hv, ht, hw⟩
  exact (hg.block b h1.lt (fun e => hb (by cases e; rfl))).trans h1
/-- It is made. -/
theorem ThI.made (h : RS w0 w b s p O most c Ty vo vt) : ThI w0 (w.alloc (.cells (madeCells #[Value.int .i64 0] 19) 3)) b s p O most c Ty vo vt w.heap.size (fun _ => 0) := by
  have hl := h.lt
  refine ⟨h.called (bstart _ _), IOwn.made (base := w.heap.size) w 19 (by unfold maxLen; omega) (Nat.le_refl _), by omega, fun e => ?_, fun e => ?_, h.2.2.2.2.2.1.size⟩
  · have := (World.ownsRow.lt h.2.1 _ e).2
    omega
  · have := (World.ownsRow.lt h.2.2.1 _ e).2
    omega
end
theorem order_small : ∀ i, i < 19 → orderL.getD i 0 < 19 := by decide
theorem order_back : ∀ i, i < 19 → orderL.idxOf (orderL.getD i 0) = i := by decide
theorem order_all : ∀ j, j < 19 → orderL.idxOf j < 19 ∧ orderL.getD (orderL.idxOf j) 0 = j := by decide
/-- One length more. -/
theorem third_next (s : ByteArray) (p i : Nat) (hi : i < 19) : ∀ j, j < 19 → upd (thirdF s p i) (orderL.getD i 0) (num s (p + 3 * i) 3) j = thirdF s p (i + 1) j := by
  intro j hj
  unfold upd thirdF
  by_cases h : j = orderL.getD i 0
  · subst h
    rw [if_pos rfl, order_back i hi, if_pos (by omega)]
  · rw [if_neg h]
    have hne : orderL.idxOf j ≠ i := fun e => h (by rw [← e, (order_all j hj).2])
    by_cases h2 : orderL.idxOf j < i
    · rw [if_pos h2, if_pos (by omega)]
    · rw [if_neg h2, if_neg (by omega)]
theorem third_start (s : ByteArray) (p : Nat) : thirdF s p 0 = fun _ => 0 := by
  funext i
  unfold thirdF
  rw [if_neg (by omega)]
/-- What the ring of the third code's lengths has at hand. -/
def ThSt (w0 : World) (b : Nat) (s : ByteArray) (p14 : Nat) (O : List Int) (most : Nat) (Ty : List Int) (vo vt : Value) (g3 kk i pp c : Nat) (F : Nat → Int) (w' : World) : Prop :=
  ThI w0 w' b s pp O most c Ty vo vt g3 F ∧ pp ≤ 8 * s.size ∧ ((c = 0 ∧ pp = p14 + 3 * i ∧ ∀ j, j < 19 → F j = thirdF s p14 i j) ∨ (c = 2 ∧ ¬ p14 + 3 * kk ≤ 8 * s.size))

end Go.Proofs.YtbcnlggkoidmmaaGreatDoor

namespace Go.Proofs.YtbcnlggkoidmmaaGreatDoor
open Go.RowKit Go.Joins OutMath CodeMath TakeMath InfMath

/-- The state, the third code's lengths in g3, its codes in g5, and the lengths so far (v), in blocks from K on. -/
def AlI (w0 w : World) (b : Nat) (s : ByteArray) (p : Nat) (O : List Int) (most c : Nat) (Ty : List Int) (vo vt : Value) (g3 : Nat) (f3 : Nat → Int) (g5 K : Nat) (v : Value) (L : List Int) : Prop :=
  ThI w0 w b s p O most c Ty vo vt g3 f3 ∧ IOwn w g5 g5 19 19 (codeOf f3 19) ∧ NumRow w K v L ∧ (g5 ≠ b ∧ g5 < K ∧ g3 < K ∧ b < K ∧ K ≤ w.heap.size) ∧ (∀ k, vo.ownBlock = some k → k < K) ∧ (∀ k, vt.ownBlock = some k → k < K) ∧ w0.heap.size ≤ K
section
variable {w0 w w' : World} {b : Nat} {s : ByteArray} {p : Nat} {O : List Int} {most c : Nat} {Ty : List Int} {vo vt : Value} {g3 : Nat} {f3 : Nat → Int} {g5 K : Nat} {v : Value} {L : List Int}
/-- What turns a block that is none of these. -/
theorem RS.other {row : Option Nat} (h : RS w0 w b s p O most c Ty vo vt) (hg : w.grownBy w' row) (hb : row ≠ some b) (hv : vo.ownBlock = none ∨ vo.ownBlock ≠ row) (ht : vt.ownBlock = none ∨ vt.ownBlock ≠ row) (hr : ∀ k, row = some k → w0.heap.size ≤ k) : RS w0 w' b s p O most c Ty vo vt := by
  obtain ⟨h1, h2, h3, h4, h5, h6, h7⟩ := h
  exact ⟨(hg.block b h1.lt (fun e => hb e.symm)).trans h1, World.ownsRow.kept h2 hg hv, World.ownsRow.kept h3 hg ht, h4, h5, h6.grown hg h6.size hr, h7⟩
theorem own_low {x : Value} {row : Option Nat} (h : ∀ k, x.ownBlock = some k → k < K) (hr : ∀ k, row = some k → K ≤ k) : x.ownBlock = none ∨ x.ownBlock ≠ row := by
  cases e : x.ownBlock with
  | none => exact .inl rfl
  | some k =>
    refine .inr (fun e1 => ?_)
    have h1 := h k e
    have h2 := hr k e1.symm
    omega
/-- What turns a block from K on. -/
theorem AlI.base {row : Option Nat} (h : AlI w0 w b s p O most c Ty vo vt g3 f3 g5 K v L) (hg : w.grownBy w' row) (hr : ∀ k, row = some k → K ≤ k) : ThI w0 w' b s p O most c Ty vo vt g3 f3 ∧ IOwn w' g5 g5 19 19 (codeOf f3 19) := by
  obtain ⟨⟨h1, h2, h3, h4, h5, h6⟩, hI, hN, ⟨q1, q2, q3, q4, q5⟩, hv, ht, hw⟩ := h
  have ne : ∀ g, g < K → row ≠ some g := fun g hg' e => by
    have := hr g e
    omega
  exact ⟨⟨h1.other hg (ne b q4) (own_low hv hr) (own_low ht hr) (fun k e => Nat.le_trans hw (hr k e)), h2.grown hg (ne g3 q3), h3, h4, h5, h6⟩, hI.grown hg (ne g5 q2)⟩
theorem AlI.turned {p' c' : Nat} (h : AlI w0 w b s p O most c Ty vo vt g3 f3 g5 K v L) (hr : RB w' b s p' vo most c' vt) (hg : w.grownBy w' (some b)) : AlI w0 w' b s p' O most c' Ty vo vt g3 f3 g5 K v L := by
  obtain ⟨h1, hI, hN, ⟨q1, q2, q3, q4, q5⟩, hv, ht, hw⟩ := h
  refine ⟨h1.turned hr hg, hI.grown hg (fun e => q1 (by cases e; rfl)), World.ownsRow.kept hN hg (.inr (fun e => ?_)), ⟨q1, q2, q3, q4, Nat.le_trans q5 hg.size⟩, hv, ht, hw⟩
  have := (World.ownsRow.lt hN b e).1
  omega
theorem AlI.called (h : AlI w0 w b s p O most c Ty vo vt g3 f3 g5 K v L) (hb : Below w.heap.size w w') : AlI w0 w' b s p O most c Ty vo vt g3 f3 g5 K v L := h.turned (h.1.1.1.called hb) (grown_called hb _)
theorem AlI.setCode (h : AlI w0 w b s p O most c Ty vo vt g3 f3 g5 K v L) (x : Nat) : AlI w0 (w.setCell ⟨b, 4, none⟩ (.int .i64 (x : Int))) b s p O most x Ty vo vt g3 f3 g5 K v L := h.turned (h.1.1.1.code x) (grown_cell _ _ _ _)
/-- A cell of a block from K on that is not the lengths'. -/
theorem AlI.cell (h : AlI w0 w b s p O most c Ty vo vt g3 f3 g5 K v L) {g j : Nat} (hg : K ≤ g) (hv : v.ownBlock ≠ some g) (x : Value) : AlI w0 (w.setCell ⟨g, j, none⟩ x) b s p O most c Ty vo vt g3 f3 g5 K v L := by
  have hgr := grown_cell w g j x
  obtain ⟨b1, b2⟩ := h.base hgr (fun k e => by cases e; exact hg)
  exact ⟨b1, b2, World.ownsRow.kept h.2.2.1 hgr (.inr hv), ⟨h.2.2.2.1.1, h.2.2.2.1.2.1, h.2.2.2.1.2.2.1, h.2.2.2.1.2.2.2.1, Nat.le_trans h.2.2.2.1.2.2.2.2 hgr.size⟩, h.2.2.2.2⟩
/-- More lengths are put behind. -/
theorem AlI.more {v' : Value} {L' : List Int} (h : AlI w0 w b s p O most c Ty vo vt g3 f3 g5 K v L) (y1 : NumRow w' K v' L') (y2 : w.grownBy w' v.ownBlock) : AlI w0 w' b s p O most c Ty vo vt g3 f3 g5 K v' L' := by
  obtain ⟨b1, b2⟩ := h.base y2 (fun k e => (World.ownsRow.lt h.2.2.1 k e).1)
  exact ⟨b1, b2, y1, ⟨h.2.2.2.1.1, h.2.2.2.1.2.1, h.2.2.2.1.2.2.1, h.2.2.2.1.2.2.2.1, Nat.le_trans h.2.2.2.1.2.2.2.2 y2.size⟩, h.2.2.2.2⟩
/-- The start: nothing is told so far. -/
theorem AlI.start (h : ThI w0 w b s p O most c Ty vo vt g3 f3) (hI : IOwn w g5 g5 19 19 (codeOf f3 19)) (hb : g5 ≠ b) : AlI w0 (w.alloc (.cells #[] 3)) b s p O most c Ty vo vt g3 f3 g5 w.heap.size (.slice (some ⟨w.heap.size, 0, none⟩) 0 0) [] := by
  refine ⟨h.called (bstart _ _), hI.called (bstart _ _), NumRow.empty w w.heap.size (Nat.le_refl _), ⟨hb, hI.lt, h.2.1.lt, h.1.lt, by simp⟩, fun k e => (World.ownsRow.lt h.1.2.1 k e).2, fun k e => (World.ownsRow.lt h.1.2.2.1 k e).2, h.1.2.2.2.2.2.1.size⟩
end

end Go.Proofs.YtbcnlggkoidmmaaGreatDoor

namespace Go.Proofs.YtbcnlggkoidmmaaGreatDoor
open Go.RowKit Go.Joins OutMath CodeMath RunsMath

/-- Lengths that Runs are made of. -/
def RunsRight (f : Nat → Int) (n : Nat) : Prop := n ≤ 320 ∧ OkLens f n
/-- How many extra bits a symbol has. -/
theorem specBits (x : Int) (w : World) : Calls Tryz.prog 52 #[.int .i64 x] w fun e w' => e = .returned (.int .i64 ((bitsOf x : Nat) : Int)) ∧ w' = w := by
  by_cases h1 : x = 16
  · subst h1
    go_enter Tryz.func52, Tryz.ntmps52
    go_wp2_with fail
    go_ret
    exact ⟨rfl, rfl⟩
  · by_cases h2 : x = 17
    · subst h2
      go_enter Tryz.func52, Tryz.ntmps52
      go_wp2_with fail
      go_ret
      exact ⟨rfl, rfl⟩
    · by_cases h3 : x = 18
      · subst h3
        go_enter Tryz.func52, Tryz.ntmps52
        go_wp2_with fail
        go_ret
        exact ⟨rfl, rfl⟩
      · have HB : Hid (bitsOf x = 0) := by
          show bitsOf x = 0
          unfold bitsOf
          rw [if_neg h1, if_neg h2, if_neg h3]
        have d1 : (x == 16) = false := by simpa using h1
        have d2 : (x == 17) = false := by simpa using h2
        have d3 : (x == 18) = false := by simpa using h3
        clear h1 h2 h3
        go_enter Tryz.func52, Tryz.ntmps52
        go_wp2_with fail
        go_ret
        exact ⟨congrArg (fun q : Nat => Ending.returned (.int .i64 (q : Int))) HB.out.symm, rfl⟩

end Go.Proofs.YtbcnlggkoidmmaaGreatDoor
