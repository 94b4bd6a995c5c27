/-
  The walk of the document's model of the lengths of a block of type 2, where a code is met ahead of the third code's lengths.
  The third code's lengths beside an unpacking under way.
  A list of numbers, made.
  Arrays of sixteen numbers. Nothing here speaks of the program.
-/
import Derived.Test.YtedbmhelmenknaaDoorPk20
import Derived.Test.YtedbmhelmenknaaDoorRows
import Derived.Test.YtedbmhelmenknaaDoorPk01
import Derived.Test.YtedbmhelmenknaaDoorPk02
import Derived.WalkKit
import Derived.ProofKit
import Derived.WalkLawsBesides
import Derived.OwnWalk
import Derived.Laws.MakeOwn
import Derived.Lib.SmallJoins
import Derived.Below
namespace Go.Proofs.YtedbmhelmenknaaDoor
open Go.RowKit Go.Joins OutMath CodeMath TakeMath InfMath

/-- What is left where a code is met. -/
def TabBad (w0 : World) (b : Nat) (s : ByteArray) (O : List Int) (most : Nat) (Ty : List Int) (vo vt : Value) (c : Nat) (e : Ending) (w' : World) : Prop :=
  ∃ p' a1 c1 a2 c2, e = .returned (.tuple #[.slice a1 0 c1, .slice a2 0 c2]) ∧ RS w0 w' b s p' O most c Ty vo vt ∧ p' ≤ 8 * s.size

set_option maxRecDepth 100000 in
set_option maxHeartbeats 3200000 in
theorem l08Tables_short (w0 : World) (b : Nat) (s : ByteArray) (p : Nat) (O : List Int) (most : Nat) (Ty : List Int) (vo vt : Value) (w : World) (h : RS w0 w b s p O most 0 Ty vo vt) (hs : s.size ≤ 12000) (hp : p ≤ 8 * s.size) (hsh : ¬ p + 14 ≤ 8 * s.size) :
    Calls Tryd.prog 21 #[.pointer (some ⟨b, 0, none⟩)] w (TabBad w0 b s O most Ty vo vt 2) := by
  have hb1 := l08Bits_any b s p vo most 0 vt 5 w h.1 hs hp (by omega)
  have q1 := bitsR_small s p 0 5 hp
  have hc3 : (bitsR s (bitsR s (bitsR s p 0 5).2.1 (bitsR s p 0 5).2.2 5).2.1 (bitsR s (bitsR s p 0 5).2.1 (bitsR s p 0 5).2.2 5).2.2 4).2.2 = 2 := by
    rcases three_bits s p with ⟨q, _⟩ | ⟨_, q⟩
    · exact absurd q hsh
    · exact q
  rw [show p2 5 = 32 by decide +kernel] at q1
  generalize bitsR s p 0 5 = r1 at hb1 q1 hc3
  obtain ⟨x, p1, c1⟩ := r1
  dsimp only at hb1 q1 hc3
  have q2 := bitsR_small s p1 c1 5 q1.2.2.1
  have hb2 := fun (w : World) (h : RB w b s p1 vo most c1 vt) => l08Bits_any b s p1 vo most c1 vt 5 w h hs q1.2.2.1 (by omega)
  rw [show p2 5 = 32 by decide +kernel] at q2
  generalize bitsR s p1 c1 5 = r2 at hb2 q2 hc3
  obtain ⟨y, p2', c2⟩ := r2
  dsimp only at hb2 q2 hc3
  have q3 := bitsR_small s p2' c2 4 q2.2.2.1
  have hb3 := fun (w : World) (h : RB w b s p2' vo most c2 vt) => l08Bits_any b s p2' vo most c2 vt 4 w h hs q2.2.2.1 (by omega)
  rw [show p2 4 = 16 by decide +kernel] at q3
  generalize bitsR s p2' c2 4 = r3 at hb3 q3 hc3
  obtain ⟨z, p3, c3⟩ := r3
  dsimp only at hb3 q3 hc3
  subst hc3
  have HH := hid_of h
  have HB2 := hid_of hb2
  have HB3 := hid_of hb3
  have HP3 := hid_of q3.2.2.1
  have hx0 := q1.1
  have hx1 := q1.2.1
  have hy0 := q2.1
  have hy1 := q2.2.1
  have hz0 := q3.1
  have hz1 := q3.2.1
  clear h hb2 hb3 q1 q2 q3
  have e1 : IntKind.i64.wrap (x + 257) = x + 257 := by
    rw [IntKind.wrap_i64]
    omega
  have e2 : IntKind.i64.wrap (y + 1) = y + 1 := by
    rw [IntKind.wrap_i64]
    omega
  have e3 : IntKind.i64.wrap (z + 4) = z + 4 := by
    rw [IntKind.wrap_i64]
    omega
  have e4 : IntKind.i64.wrap (x + 257 + (y + 1)) = x + 257 + (y + 1) := by
    rw [IntKind.wrap_i64]
    omega
  go_enter Tryd.func21, Tryd.ntmps21
  go_wp2_with fail
  refine hb1.mono ?_
  rintro e w1 ⟨rfl, hR1, hg1⟩
  have HS1 := hid_of (HH.out.turned hR1 hg1)
  have hf2 := HB2.out w1 hR1
  clear hb1 hR1 hg1 HH HB2
  go_wp2_with fail
  refine hf2.mono ?_
  rintro e w2 ⟨rfl, hR2, hg2⟩
  have HS2 := hid_of (HS1.out.turned hR2 hg2)
  have hf3 := HB3.out w2 hR2
  clear hf2 hR2 hg2 HS1 HB3
  go_wp2_with fail
  refine hf3.mono ?_
  rintro e w3 ⟨rfl, hR3, hg3⟩
  have HS3 : Hid (RS w0 w3 b s p3 O most 2 Ty vo vt) := HS2.out.turned hR3 hg3
  have k4 : w3.cell? ⟨b, 4, none⟩ = some (.int .i64 2) := hR3.cells.2.2.2.2.1
  have hl3 := HS3.out.lt
  clear hf3 hR3 hg3 HS2
  have hmk := make_cells w3 19 (by omega)
  rw [show ((19 : Nat) : Int) = 19 from rfl] at hmk
  have dk : ((2 : Int) == 0) = false := by decide
  have HW := hid_of (bstart w3 (.cells (madeCells #[Value.int .i64 0] 19) 3))
  have HI := hid_of (IOwn.made (base := w3.heap.size) w3 19 (by unfold maxLen; omega) (Nat.le_refl _))
  have HS4 := hid_of (HS3.out.called HW.out)
  generalize w3.alloc (.cells (madeCells #[Value.int .i64 0] 19) 3) = W4 at hmk HS4 HW HI
  go_wp2_with fail
  go_loopg [8] 1 (fun _ v w' => v = .int .i64 0 ∧ Hid (w' = W4))
  case atStart => exact ⟨rfl, rfl⟩
  case round =>
    obtain ⟨rfl, HE⟩ := hrel
    have hE : wr = W4 := HE.out
    subst hE
    clear HE
    have d1 : decide ((0 : Int) < z + 4) = true := decide_eq_true (by omega)
    have k5 : wr.cell? ⟨b, 4, none⟩ = some (.int .i64 2) := HS4.out.1.cells.2.2.2.2.1
    have hco := specCodes_some (some ⟨w3.heap.size, 0, none⟩) 19 19 (fun _ => 0) wr (HI.out.sl).came (by omega)
    go_wp2_with fail
    refine hco.mono ?_
    rintro e w5 ⟨m5, x5, rfl, hB5, _, _⟩
    have HS5 := hid_of (HS4.out.called hB5)
    clear hco hB5 HS4 k5 HI HW
    have HS6 := hid_of (HS5.out.called (bstart w5 (.cells #[] 3)))
    go_wp2_with fail
    generalize w5.alloc (.cells #[] 3) = W6 at HS6
    go_loopg [11] 1 (fun _ v w' => v = .slice (some ⟨w5.heap.size, 0, none⟩) 0 0 ∧ Hid (w' = W6))
    case atStart => exact ⟨rfl, rfl⟩
    case round =>
      obtain ⟨rfl, HE⟩ := hrel
      have hE : wr = W6 := HE.out
      subst hE
      clear HE
      have d2 : decide ((0 : Int) < x + 257 + (y + 1)) = true := decide_eq_true (by omega)
      have k5 : wr.cell? ⟨b, 4, none⟩ = some (.int .i64 2) := HS6.out.1.cells.2.2.2.2.1
      have dk2 : ((2 : Int) != 0) = true := by decide
      have HZ : ∀ o1 o2, Hid (RS w0 ((wr.alloc o1).alloc o2) b s p3 O most 2 Ty vo vt) := fun o1 o2 => (HS6.out.called (bstart _ _)).called (bstart _ _)
      go_wp2_with fail
      go_ret2
      exact ⟨p3, _, _, _, _, rfl, (HZ _ _).out, HP3.out⟩


set_option maxRecDepth 100000 in
set_option maxHeartbeats 3200000 in
theorem l08Tables_over (w0 : World) (b : Nat) (s : ByteArray) (p : Nat) (O : List Int) (most : Nat) (Ty : List Int) (vo vt : Value) (w : World) (h : RS w0 w b s p O most 0 Ty vo vt) (hs : s.size ≤ 12000) (hp : p ≤ 8 * s.size) (h14 : p + 14 ≤ 8 * s.size) (hov : 29 < num s p 5 ∨ 29 < num s (p + 5) 5) :
    Calls Tryd.prog 21 #[.pointer (some ⟨b, 0, none⟩)] w (TabBad w0 b s O most Ty vo vt 5) := by
  have hb1 := l08Bits_any b s p vo most 0 vt 5 w h.1 hs hp (by omega)
  have hb2 := fun (w : World) (h : RB w b s (p + 5) vo most 0 vt) => l08Bits_any b s (p + 5) vo most 0 vt 5 w h hs (by omega) (by omega)
  have hb3 := fun (w : World) (h : RB w b s (p + 10) vo most 0 vt) => l08Bits_any b s (p + 10) vo most 0 vt 4 w h hs (by omega) (by omega)
  rw [bitsR_ok (by omega)] at hb1
  rw [bitsR_ok (show p + 5 + 5 ≤ 8 * s.size by omega), show p + 5 + 5 = p + 10 by omega] at hb2
  rw [bitsR_ok (show p + 10 + 4 ≤ 8 * s.size by omega), show p + 10 + 4 = p + 14 by omega] at hb3
  have q1 := num_bd s p 5
  have q2 := num_bd s (p + 5) 5
  have q3 := num_bd s (p + 10) 4
  rw [show p2 5 = 32 by decide +kernel] at q1 q2
  rw [show p2 4 = 16 by decide +kernel] at q3
  generalize num s p 5 = x at hb1 q1 hov
  generalize num s (p + 5) 5 = y at hb2 q2 hov
  generalize num s (p + 10) 4 = z at hb3 q3
  have HH := hid_of h
  have HB2 := hid_of hb2
  have HB3 := hid_of hb3
  have HP3 := hid_of h14
  have hx0 := q1.1
  have hx1 := q1.2
  have hy0 := q2.1
  have hy1 := q2.2
  have hz0 := q3.1
  have hz1 := q3.2
  clear h hb2 hb3 q1 q2 q3
  have e1 : IntKind.i64.wrap (x + 257) = x + 257 := by
    rw [IntKind.wrap_i64]
    omega
  have e2 : IntKind.i64.wrap (y + 1) = y + 1 := by
    rw [IntKind.wrap_i64]
    omega
  have e3 : IntKind.i64.wrap (z + 4) = z + 4 := by
    rw [IntKind.wrap_i64]
    omega
  have e4 : IntKind.i64.wrap (x + 257 + (y + 1)) = x + 257 + (y + 1) := by
    rw [IntKind.wrap_i64]
    omega
  go_enter Tryd.func21, Tryd.ntmps21
  go_wp2_with fail
  refine hb1.mono ?_
  rintro e w1 ⟨rfl, hR1, hg1⟩
  have HS1 := hid_of (HH.out.turned hR1 hg1)
  have hf2 := HB2.out w1 hR1
  clear hb1 hR1 hg1 HH HB2
  go_wp2_with fail
  refine hf2.mono ?_
  rintro e w2 ⟨rfl, hR2, hg2⟩
  have HS2 := hid_of (HS1.out.turned hR2 hg2)
  have hf3 := HB3.out w2 hR2
  clear hf2 hR2 hg2 HS1 HB3
  go_wp2_with fail
  refine hf3.mono ?_
  rintro e w3 ⟨rfl, hR3, hg3⟩
  have HS3 : Hid (RS w0 (w3.setCell ⟨b, 4, none⟩ (.int .i64 5)) b s (p + 14) O most 5 Ty vo vt) := (HS2.out.turned hR3 hg3).setCode 5
  have k4 : w3.cell? ⟨b, 4, none⟩ = some (.int .i64 0) := hR3.cells.2.2.2.2.1
  have fz := hR3.free
  have hl3 := hR3.lt
  obtain ⟨W3, hW3⟩ : ∃ W, W = w3.setCell ⟨b, 4, none⟩ (.int .i64 5) := ⟨_, rfl⟩
  rw [← hW3] at HS3
  have HW3 := hid_of hW3
  clear hW3
  clear hf3 hR3 hg3 HS2
  have hmk := make_cells W3 19 (by omega)
  rw [show ((19 : Nat) : Int) = 19 from rfl] at hmk
  have dk : ((5 : Int) == 0) = false := by decide
  have HW := hid_of (bstart W3 (.cells (madeCells #[Value.int .i64 0] 19) 3))
  have HI := hid_of (IOwn.made (base := W3.heap.size) W3 19 (by unfold maxLen; omega) (Nat.le_refl _))
  have HS4 := hid_of (HS3.out.called HW.out)
  generalize W3.alloc (.cells (madeCells #[Value.int .i64 0] 19) 3) = W4 at hmk HS4 HW HI
  have hz3 : W3.heap.size = w3.heap.size := by
    rw [HW3.out]
    simp [World.setCell]
  rw [hz3] at HI hmk
  rw [HW3.out] at hmk
  clear hz3
  by_cases hxx : 29 < x
  case' pos => have o1 : decide ((286 : Int) < x + 257) = true := decide_eq_true (by omega)
  case' neg => have o1 : decide ((286 : Int) < x + 257) = false := decide_eq_false (by omega)
  case' neg => have o2 : decide ((30 : Int) < y + 1) = true := decide_eq_true (by omega)
  all_goals
   go_wp2_with fail
   go_loopg [8] 1 (fun _ v w' => v = .int .i64 0 ∧ Hid (w' = W4))
   case atStart => exact ⟨rfl, rfl⟩
   case round =>
     obtain ⟨rfl, HE⟩ := hrel
     have hE : wr = W4 := HE.out
     subst hE
     clear HE
     have d1 : decide ((0 : Int) < z + 4) = true := decide_eq_true (by omega)
     have k5 : wr.cell? ⟨b, 4, none⟩ = some (.int .i64 5) := HS4.out.1.cells.2.2.2.2.1
     have hco := specCodes_some (some ⟨w3.heap.size, 0, none⟩) 19 19 (fun _ => 0) wr (HI.out.sl).came (by omega)
     go_wp2_with fail
     refine hco.mono ?_
     rintro e w5 ⟨m5, x5, rfl, hB5, _, _⟩
     have HS5 := hid_of (HS4.out.called hB5)
     clear hco hB5 HS4 k5 HI HW
     have HS6 := hid_of (HS5.out.called (bstart w5 (.cells #[] 3)))
     go_wp2_with fail
     generalize w5.alloc (.cells #[] 3) = W6 at HS6
     go_loopg [11] 1 (fun _ v w' => v = .slice (some ⟨w5.heap.size, 0, none⟩) 0 0 ∧ Hid (w' = W6))
     case atStart => exact ⟨rfl, rfl⟩
     case round =>
       obtain ⟨rfl, HE⟩ := hrel
       have hE : wr = W6 := HE.out
       subst hE
       clear HE
       have d2 : decide ((0 : Int) < x + 257 + (y + 1)) = true := decide_eq_true (by omega)
       have k5 : wr.cell? ⟨b, 4, none⟩ = some (.int .i64 5) := HS6.out.1.cells.2.2.2.2.1
       have dk2 : ((5 : Int) != 0) = true := by decide
       have HZ : ∀ o1 o2, Hid (RS w0 ((wr.alloc o1).alloc o2) b s (p + 14) O most 5 Ty vo vt) := fun o1 o2 => (HS6.out.called (bstart _ _)).called (bstart _ _)
       go_wp2_with fail
       go_ret2
       exact ⟨p + 14, _, _, _, _, rfl, (HZ _ _).out, HP3.out⟩

end Go.Proofs.YtedbmhelmenknaaDoor

namespace Go.Proofs.YtedbmhelmenknaaDoor
open Go.RowKit Go.Joins OutMath CodeMath TakeMath InfMath

/-- The state, and the third code's lengths in block g3. -/
def ThI (w0 w : World) (b : Nat) (s : ByteArray) (p : Nat) (O : List Int) (most c : Nat) (Ty : List Int) (vo vt : Value) (g3 : Nat) (F : Nat → Int) : Prop :=
  RS w0 w b s p O most c Ty vo vt ∧ IOwn w g3 g3 19 19 F ∧ g3 ≠ b ∧ vo.ownBlock ≠ some g3 ∧ vt.ownBlock ≠ some g3 ∧ w0.heap.size ≤ g3
section
variable {w0 w w' : World} {b : Nat} {s : ByteArray} {p : Nat} {O : List Int} {most c : Nat} {Ty : List Int} {vo vt : Value} {g3 : Nat} {F : Nat → Int}
theorem ThI.turned {p' c' : Nat} (h : ThI w0 w b s p O most c Ty vo vt g3 F) (hr : RB w' b s p' vo most c' vt) (hg : w.grownBy w' (some b)) : ThI w0 w' b s p' O most c' Ty vo vt g3 F :=
  ⟨h.1.turned hr hg, h.2.1.grown hg (fun e => h.2.2.1 (by cases e; rfl)), h.2.2⟩
theorem ThI.called (h : ThI w0 w b s p O most c Ty vo vt g3 F) (hb : Below w.heap.size w w') : ThI w0 w' b s p O most c Ty vo vt g3 F := h.turned (h.1.1.called hb) (grown_called hb _)
theorem ThI.set (h : ThI w0 w b s p O most c Ty vo vt g3 F) (j : Nat) (hj : j < 19) (x : Int) : ThI w0 (w.setCell ⟨g3, j, none⟩ (.int .i64 x)) b s p O most c Ty vo vt g3 (upd F j x) := by
  obtain ⟨⟨h1, h2, h3, h4, h5, h6, h7⟩, hI, hb, hv, ht, hw⟩ := h
  have hg := grown_cell w g3 j (.int .i64 x)
  refine ⟨⟨?_, World.ownsRow.kept h2 hg (.inr hv), World.ownsRow.kept h3 hg (.inr ht), h4, h5, h6.setCell (p := ⟨g3, j, none⟩) hw _, h7⟩, hI.set j hj x, hb, hv, ht, hw⟩
  exact (hg.block b h1.lt (fun e => hb (by cases e; rfl))).trans h1
/-- It is made. -/
theorem ThI.made (h : RS w0 w b s p O most c Ty vo vt) : ThI w0 (w.alloc (.cells (madeCells #[Value.int .i64 0] 19) 3)) b s p O most c Ty vo vt w.heap.size (fun _ => 0) := by
  have hl := h.lt
  refine ⟨h.called (bstart _ _), IOwn.made (base := w.heap.size) w 19 (by unfold maxLen; omega) (Nat.le_refl _), by omega, fun e => ?_, fun e => ?_, h.2.2.2.2.2.1.size⟩
  · have := (World.ownsRow.lt h.2.1 _ e).2
    omega
  · have := (World.ownsRow.lt h.2.2.1 _ e).2
    omega
end
theorem order_small : ∀ i, i < 19 → orderL.getD i 0 < 19 := by decide
theorem order_back : ∀ i, i < 19 → orderL.idxOf (orderL.getD i 0) = i := by decide
theorem order_all : ∀ j, j < 19 → orderL.idxOf j < 19 ∧ orderL.getD (orderL.idxOf j) 0 = j := by decide
/-- One length more. -/
theorem third_next (s : ByteArray) (p i : Nat) (hi : i < 19) : ∀ j, j < 19 → upd (thirdF s p i) (orderL.getD i 0) (num s (p + 3 * i) 3) j = thirdF s p (i + 1) j := by
  intro j hj
  unfold upd thirdF
  by_cases h : j = orderL.getD i 0
  · subst h
    rw [if_pos rfl, order_back i hi, if_pos (by omega)]
  · rw [if_neg h]
    have hne : orderL.idxOf j ≠ i := fun e => h (by rw [← e, (order_all j hj).2])
    by_cases h2 : orderL.idxOf j < i
    · rw [if_pos h2, if_pos (by omega)]
    · rw [if_neg h2, if_neg (by omega)]
theorem third_start (s : ByteArray) (p : Nat) : thirdF s p 0 = fun _ => 0 := by
  funext i
  unfold thirdF
  rw [if_neg (by omega)]
/-- What the ring of the third code's lengths has at hand. -/
def ThSt (w0 : World) (b : Nat) (s : ByteArray) (p14 : Nat) (O : List Int) (most : Nat) (Ty : List Int) (vo vt : Value) (g3 kk i pp c : Nat) (F : Nat → Int) (w' : World) : Prop :=
  ThI w0 w' b s pp O most c Ty vo vt g3 F ∧ pp ≤ 8 * s.size ∧ ((c = 0 ∧ pp = p14 + 3 * i ∧ ∀ j, j < 19 → F j = thirdF s p14 i j) ∨ (c = 2 ∧ ¬ p14 + 3 * kk ≤ 8 * s.size))

end Go.Proofs.YtedbmhelmenknaaDoor

namespace Go.Proofs.YtedbmhelmenknaaDoor
open Go.RowKit Go.Joins

theorem info_made : (Tryd.prog.info? 3).map (fun i => (i.zero, i.size, i.bytes)) = some (some (.int .i64 0), 1, 8) := by kernel_rfl

theorem make_ints (w : World) (n : Nat) (hn : n ≤ 1048576) : (Instr.makeSlice 25 (.int .i64 n) (.int .i64 n)).run Tryd.prog w = .ok (.slice (some ⟨w.heap.size, 0, none⟩) n n) (w.alloc (.cells (madeCells #[Value.int .i64 0] n) 3)) := by
  obtain ⟨i0, hi0, hz0, hz1, hz2⟩ := info_parts info_made
  have h := run_make (P := Tryd.prog) w 25 3 i0 (.int .i64 0) Tryd.underlying25 hi0 hz0 .i64 .i64 n n (by omega) (by omega) (by rw [hz2]; omega) (by omega)
  rw [hz1, Int.toNat_natCast, Nat.mul_one] at h
  exact h

end Go.Proofs.YtedbmhelmenknaaDoor

namespace Go.Proofs.YtedbmhelmenknaaDoor
open Go.RowKit Go.Joins

/-- Sixteen numbers. -/
abbrev six (g : Nat → Int) : Array Value := #[.int .i64 (g 0), .int .i64 (g 1), .int .i64 (g 2), .int .i64 (g 3), .int .i64 (g 4), .int .i64 (g 5), .int .i64 (g 6), .int .i64 (g 7), .int .i64 (g 8), .int .i64 (g 9), .int .i64 (g 10), .int .i64 (g 11), .int .i64 (g 12), .int .i64 (g 13), .int .i64 (g 14), .int .i64 (g 15)]

/-- Block b is an array of sixteen numbers. -/
def Six (w : World) (b : Nat) (t : TypeId) (g : Nat → Int) : Prop := w.heap[b]? = some (.cells (fints g 16).toArray t (0, 0))
theorem Six.c {w : World} {b : Nat} {t : TypeId} {g : Nat → Int} (h : Six w b t g) (i : Nat) (hi : i < 16) : w.cell? ⟨b, i, none⟩ = some (.int .i64 (g i)) := by
  have k := cell_of_block h i
  rw [k, List.getElem?_toArray, List.getElem?_eq_getElem (by rw [fints_length]; exact hi), fints_get]
theorem Six.f {w : World} {b : Nat} {t : TypeId} {g : Nat → Int} (h : Six w b t g) (i : Nat) : w.frozen? ⟨b, i, none⟩ = false := unfrozen_of_block h i
theorem Six.lt {w : World} {b : Nat} {t : TypeId} {g : Nat → Int} (h : Six w b t g) : b < w.heap.size := block_lt h
theorem Six.set {w : World} {b : Nat} {t : TypeId} {g : Nat → Int} (h : Six w b t g) (i : Nat) (x : Int) : Six (w.setCell ⟨b, i, none⟩ (.int .i64 x)) b t (upd g i x) := by
  have k := block_setCell (i := i) h (.int .i64 x)
  unfold Six
  rw [k, ← fints_set]
  simp
theorem Six.congr {w : World} {b : Nat} {t : TypeId} {g g' : Nat → Int} (h : Six w b t g) (e : ∀ i, i < 16 → g i = g' i) : Six w b t g' := by
  unfold Six at h ⊢
  rw [← fints_congr e]
  exact h

end Go.Proofs.YtedbmhelmenknaaDoor
