/-
  The walk of the document's model of the symbols of a block, where a code is met already: nothing is done.
-/
import Derived.Test.YtedbmhelmenknaaDoorPk18
namespace Go.Proofs.YtedbmhelmenknaaDoor
open Go.RowKit Go.Joins OutMath CodeMath InfMath

theorem coded_none (f : Nat → Int) : Coded f 0 := ⟨by omega, fun i hi => absurd hi (by omega), by show (0 : Int) ≤ 32768; decide⟩
set_option maxRecDepth 100000 in
set_option maxHeartbeats 3200000 in
theorem l08Symbols_bad (w0 : World) (b : Nat) (s : ByteArray) (p : Nat) (O : List Int) (most c : Nat) (Ty : List Int) (vo vt : Value) (a1 : Option Addr) (c1 : Nat) (a2 : Option Addr) (c2 : Nat) (w : World) (h : RS w0 w b s p O most c Ty vo vt) (hc : c ≠ 0) :
    Calls Tryd.prog 20 #[.pointer (some ⟨b, 0, none⟩), .slice a1 0 c1, .slice a2 0 c2] w fun e w' => e = .returned (.tuple #[]) ∧ RS w0 w' b s p O most c Ty vo vt := by
  have HH := hid_of h
  have hl := h.lt
  have hc1 := specCodes_good a1 0 c1 (fun _ => 0) w (.inl rfl) (coded_none _)
  clear h
  go_enter Tryd.func20, Tryd.ntmps20
  go_wp2_with fail
  refine hc1.mono ?_
  rintro e w1 ⟨rfl, _, hB1⟩
  clear hc1
  have hc2 := specCodes_good a2 0 c2 (fun _ => 0) w1 (.inl rfl) (coded_none _)
  go_wp2_with fail
  refine hc2.mono ?_
  rintro e w2 ⟨rfl, _, hB2⟩
  clear hc2
  have HS := hid_of ((HH.out.called hB1).called hB2)
  clear hB1 hB2 HH
  go_wp2_with fail
  go_loopg [] 1 (fun _ w' => Hid (RS w0 w' b s p O most c Ty vo vt))
  case atStart => exact HS
  case round =>
    clear HS
    have k4 : wr.cell? ⟨b, 4, none⟩ = some (.int .i64 (c : Int)) := hrel.out.1.cells.2.2.2.2.1
    have dc : ((c : Int) == 0) = false := by simp; omega
    go_wp2_with fail
    go_end0
    exact ⟨rfl, hrel.out⟩

end Go.Proofs.YtedbmhelmenknaaDoor
