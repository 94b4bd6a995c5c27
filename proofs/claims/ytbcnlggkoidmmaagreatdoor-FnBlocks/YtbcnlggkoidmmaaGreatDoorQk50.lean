/-
  The walks of slices.Grow and slices.Concat over three lists of parts.
  The walk of the program's WovenBlock.
-/
import Derived.Test.YtbcnlggkoidmmaaGreatDoorQk27
import Derived.Test.YtbcnlggkoidmmaaGreatDoorQk11
import Derived.Test.YtbcnlggkoidmmaaGreatDoorQk34
import Derived.Test.YtbcnlggkoidmmaaGreatDoorRows
import Derived.Test.YtbcnlggkoidmmaaGreatDoorQk01
import Derived.Test.YtbcnlggkoidmmaaGreatDoorQk04
import Derived.Test.YtbcnlggkoidmmaaGreatDoorQk02
import Derived.Test.YtbcnlggkoidmmaaGreatDoorQk07
import Derived.Test.YtbcnlggkoidmmaaGreatDoorQk06
import Derived.Test.YtbcnlggkoidmmaaGreatDoorQk05
import Derived.Test.YtbcnlggkoidmmaaGreatDoorQk32
import Derived.Test.YtbcnlggkoidmmaaGreatDoorQk10
import Derived.Test.YtbcnlggkoidmmaaGreatDoorQk45
import Derived.Test.YtbcnlggkoidmmaaGreatDoorQk35
import Derived.Test.YtbcnlggkoidmmaaGreatDoorQk12
import Derived.Test.YtbcnlggkoidmmaaGreatDoorQk49
import Derived.WalkKit
import Derived.ProofKit
import Derived.WalkLawsBesides
import Derived.RegionTactic
import Derived.Deep.RegionWith
import Derived.Deep.RegionHeldLaw
import Derived.Deep.RegionHeld3
import Derived.Below
import Derived.OwnWalk
import Derived.Lib.SmallJoins
namespace Go.Proofs.YtbcnlggkoidmmaaGreatDoor
open Go.RowKit Go.Joins PartMath

set_option maxRecDepth 100000 in
set_option maxHeartbeats 1600000 in
theorem grow_parts (n : Nat) (w : World) (h1 : 1 ≤ n) (h2 : n ≤ 200000) :
    Calls Tryz.prog 75 #[.slice none 0 0, .int .i64 (n : Int)] w fun e w' => ∃ g c, e = .returned (.slice (some ⟨g, 0, none⟩) 0 c) ∧ w'.ownsRow w.heap.size 60 3 (.slice (some ⟨g, 0, none⟩) 0 c) 0 [] ∧ Below w.heap.size w w' := by
  obtain ⟨i0, hi0, hz0, hz1, hz2⟩ := info_parts info_part9
  have hap := Lib.run_append_nil_zeros (P := Tryz.prog) w 63 3 63 60 i0 (.agg #[.int .i64 0, .int .i64 0, .bool false]) .i64 .i64 Tryz.underlying63 Tryz.underlying3 hi0 hz0 n (by omega) (by omega) (by omega) (by rw [hz2]; omega)
  have hge := grownCap_ge w n 0 60
  have hle := grownCap_le_maxLen w n 0 60 (by unfold maxLen; omega)
  have HO : Hid ((w.drew.alloc (.cells (Builtin.zeroCells (Value.agg #[.int .i64 0, .int .i64 0, .bool false]).cells n ++ Builtin.zeroCells (Value.agg #[.int .i64 0, .int .i64 0, .bool false]).cells (grownCap w n 0 60 - n)) 60)).ownsRow w.heap.size 60 3 (.slice (some ⟨w.heap.size, 0, none⟩) 0 (grownCap w n 0 60)) 0 [] ∧ Below w.heap.size w (w.drew.alloc (.cells (Builtin.zeroCells (Value.agg #[.int .i64 0, .int .i64 0, .bool false]).cells n ++ Builtin.zeroCells (Value.agg #[.int .i64 0, .int .i64 0, .bool false]).cells (grownCap w n 0 60 - n)) 60))) := by
    refine ⟨⟨rfl, .inr ⟨w.heap.size, grownCap w n 0 60, _, rfl, Nat.le_refl _, heap_alloc_new w.drew _, Nat.zero_le _, hle, ?_, by simp⟩⟩, (Below.refl _ _).drew.alloc (Nat.le_refl _) _⟩
    simp [Builtin.zeroCells, Value.cells]
    omega
  generalize w.drew.alloc _ = W at hap HO
  generalize grownCap w n 0 60 = cp at *
  have d1 : decide ((n : Int) < 0) = false := decide_eq_false (by omega)
  have d2 : decide ((0 : Int) < (n : Int)) = true := decide_eq_true (by omega)
  have d3 : decide (0 < n) = true := decide_eq_true (by omega)
  clear hi0 hz0 hz1 hz2
  go_enter Tryz.func75, Tryz.ntmps75
  go_wp2_with (at_builtin; refine wpList_by_run rfl _ _ _ _ rfl rfl rfl hap ?_)
  go_wp2_with fail
  go_ret
  exact ⟨w.heap.size, cp, rfl, HO.out⟩

/-- The first i lists, one behind the other. -/
def catP (Ls : Nat → List Part) : Nat → List Part
  | 0 => []
  | i + 1 => catP Ls i ++ Ls i
theorem catP_small {Ls : Nat → List Part} (h : ∀ i, i < 3 → (Ls i).length ≤ 60000) : ∀ i, i ≤ 3 → (catP Ls i).length ≤ 60000 * i
  | 0, _ => by simp [catP]
  | i + 1, hi => by
    have h1 := catP_small h i (by omega)
    have h2 := h i (by omega)
    show (catP Ls i ++ Ls i).length ≤ _
    rw [List.length_append]
    omega
/-- Three lists of parts in the row of block sb. -/
structure ThreeP (w : World) (sb : Nat) (A : Nat → Addr) (C : Nat → Nat) (Ls : Nat → List Part) : Prop where
  lt : sb < w.heap.size
  cell : ∀ i, i < 3 → w.cell? ⟨sb, i, none⟩ = some (.slice (some (A i)) (Ls i).length (C i))
  row : ∀ i, i < 3 → PCame w (some (A i)) (Ls i)
  small : ∀ i, i < 3 → (Ls i).length ≤ 60000
theorem ThreeP.called {w w' : World} {sb : Nat} {A : Nat → Addr} {C : Nat → Nat} {Ls : Nat → List Part} (h : ThreeP w sb A C Ls) (hb : Below w.heap.size w w') : ThreeP w' sb A C Ls where
  lt := Nat.lt_of_lt_of_le h.lt hb.size
  cell := fun i hi => (hb.cell (p := ⟨sb, i, Option.none⟩) h.lt).trans (h.cell i hi)
  row := fun i hi => (h.row i hi).called hb
  small := h.small
set_option maxRecDepth 100000 in
set_option maxHeartbeats 1600000 in
theorem concat_parts (sb c : Nat) (A : Nat → Addr) (C : Nat → Nat) (Ls : Nat → List Part) (w : World) (h : ThreeP w sb A C Ls) (h1 : 1 ≤ (catP Ls 3).length) :
    Calls Tryz.prog 37 #[.slice (some ⟨sb, 0, none⟩) 3 c] w fun e w' => ∃ g c', e = .returned (.slice (some ⟨g, 0, none⟩) (catP Ls 3).length c') ∧ w'.ownsRow w.heap.size 60 3 (.slice (some ⟨g, 0, none⟩) (catP Ls 3).length c') (catP Ls 3).length (pcells (catP Ls 3)) ∧ Below w.heap.size w w' := by
  have HF := hid_of h
  have hsm := catP_small h.small
  clear h
  go_enter Tryz.func37, Tryz.ntmps37
  go_wp2_with fail
  go_loopg [3, 11] 4 (fun gk v u w' => ∃ i : Nat, i ≤ 3 ∧ v = .int .i64 ((catP Ls i).length : Int) ∧ u = .int .i64 (i : Int) ∧ 3 - i ≤ gk ∧ Hid (w' = w))
  case atStart => exact ⟨0, by omega, rfl, rfl, by omega, rfl⟩
  case round =>
    obtain ⟨i, hi, rfl, rfl, hgk, HE⟩ := hrel
    have hE : w = wr := HE.out.symm
    subst hE
    clear HE
    by_cases hlt : i < 3
    · have dl : decide ((i : Int) < 3) = true := decide_eq_true (by omega)
      have dl2 : decide (i < 3) = true := decide_eq_true hlt
      have hc := HF.out.cell i hlt
      have hl := HF.out.lt
      have hs1 := hsm i (by omega)
      have hs2 := HF.out.small i hlt
      have HNX : Hid ((catP Ls (i + 1)).length = (catP Ls i).length + (Ls i).length) := by
        show (catP Ls i ++ Ls i).length = _
        rw [List.length_append]
      have x0 : (0 : Int) ≤ (i : Int) := by omega
      have x1 : (i : Int) < 3 := by omega
      generalize (catP Ls i).length = n1 at *
      generalize (Ls i).length = n2 at *
      have dn : decide ((n1 : Int) + (n2 : Int) < 0) = false := decide_eq_false (by omega)
      go_wp2_with fail
      go_roundg (3 - (i + 1))
      case measure => omega
      case rel => exact ⟨i + 1, by omega, by rw [HNX.out]; go_num, by go_num, Nat.le_refl _, rfl⟩
    · obtain rfl : i = 3 := by omega
      have dl : decide (((3 : Nat) : Int) < 3) = false := by decide
      have hgr := grow_parts (catP Ls 3).length w h1 (by have := hsm 3 (by omega); omega)
      go_wp2_with fail
      refine hgr.mono ?_
      clear hgr
      rintro e w1 ⟨g, c1, rfl, hnr, hb⟩
      have H0 : Hid (w1.ownsRow w.heap.size 60 3 (.slice (some ⟨g, 0, none⟩) 0 c1) (catP Ls 0).length (pcells (catP Ls 0)) ∧ Below w.heap.size w w1) := ⟨hnr, hb⟩
      clear hnr hb
      go_wp2_with fail
      go_loopg [6, 27] 4 (fun gk v u w' => ∃ (i g : Nat) (c : Nat), i ≤ 3 ∧ v = .slice (some ⟨g, 0, none⟩) (catP Ls i).length c ∧ u = .int .i64 (i : Int) ∧ 3 - i ≤ gk ∧ Hid (w'.ownsRow w.heap.size 60 3 (.slice (some ⟨g, 0, none⟩) (catP Ls i).length c) (catP Ls i).length (pcells (catP Ls i)) ∧ Below w.heap.size w w'))
      case atStart => exact ⟨0, _, _, by omega, rfl, rfl, by omega, H0⟩
      case round =>
        clear H0
        obtain ⟨i, g, cc, hi, rfl, rfl, hgk, hR⟩ := hrel
        by_cases hlt : i < 3
        · have dl : decide ((i : Int) < 3) = true := decide_eq_true (by omega)
          have dl2 : decide (i < 3) = true := decide_eq_true hlt
          have hF := HF.out.called hR.out.2
          have hc := hF.cell i hlt
          have hl := hF.lt
          have hs1 := hsm i (by omega)
          have hs2 := hF.small i hlt
          have x0 : (0 : Int) ≤ (i : Int) := by omega
          have x1 : (i : Int) < 3 := by omega
          have HRW := hid_of (hF.row i hlt).news
          have hsz := hR.out.2.size
          clear hF
          go_wp2_with (at_builtin; refine parts_append Tryz.underlying63 info_part9 (S := w.heap.size) (xs := catP Ls i) (ys := Ls i) rfl _ _ rfl rfl hR.out.1 (A i) (Ls i).length (C i) rfl rfl HRW.out (by omega) hsz ?_)
          intro v2 w2 y1 y2 y3
          have y4 : w2.ownsRow w.heap.size 60 3 v2 (catP Ls (i + 1)).length (pcells (catP Ls (i + 1))) := by
            show w2.ownsRow _ _ _ _ (catP Ls i ++ Ls i).length (pcells (catP Ls i ++ Ls i))
            rw [List.length_append]
            exact y1
          obtain ⟨g2, c2, hv2⟩ : ∃ g2 c2, v2 = .slice (some ⟨g2, 0, none⟩) (catP Ls (i + 1)).length c2 := by
            rcases y4.2 with ⟨rfl, h0⟩ | ⟨g, cap, cur, rfl, _⟩
            · rcases y3 with y3 | y3
              · cases y3
              · cases y3
            · exact ⟨g, cap, rfl⟩
          subst hv2
          have HN : Hid (w2.ownsRow w.heap.size 60 3 (.slice (some ⟨g2, 0, none⟩) (catP Ls (i + 1)).length c2) (catP Ls (i + 1)).length (pcells (catP Ls (i + 1))) ∧ Below w.heap.size w w2) := ⟨y4, hR.out.2.grown y2 hsz (fun k e => (World.ownsRow.lt hR.out.1 k e).1)⟩
          clear y4
          clear y1 y2 y3 hR HRW hc
          go_wp2_with fail
          go_roundg (3 - (i + 1))
          case measure => omega
          case rel => exact ⟨i + 1, g2, c2, by omega, rfl, by go_num, Nat.le_refl _, HN⟩
        · obtain rfl : i = 3 := by omega
          have dl : decide (((3 : Nat) : Int) < 3) = false := by decide
          have HE := hid_of hR.out
          clear hR
          go_wp2_with fail
          go_ret
          exact ⟨g, cc, rfl, HE.out⟩
end Go.Proofs.YtbcnlggkoidmmaaGreatDoor

namespace Go.Proofs.YtbcnlggkoidmmaaGreatDoor
open Go.RowKit Go.Joins OutMath TokMath TrimMath TellMath TokLenMath BlockMath PartMath BodyMath WovenMath

theorem own_pcame {w : World} {e : TypeId} {S N g cap : Nat} {P : List Part} (h : w.ownsRow S e 3 (.slice (some ⟨g, 0, none⟩) N cap) N (pcells P)) (hN : P.length = N) : PCame w (some ⟨g, 0, none⟩) P := by
  subst hN
  obtain ⟨a, c, hv, _, _, _, hp, _⟩ := pcame_of_own h rfl
  cases hv
  exact hp
theorem lit_came (w : World) (e : TypeId) (p : Part) (n : Nat) (hn : w.heap.size = n) : PCame (w.alloc (.cells #[.int .i64 p.1, .int .i64 (p.2.1 : Int), .bool p.2.2] e)) (some ⟨n, 0, none⟩) [p] := by
  subst hn
  have h := heap_alloc_new w (.cells #[.int .i64 p.1, .int .i64 (p.2.1 : Int), .bool p.2.2] e)
  refine .inr ⟨w.heap.size, 0, rfl, block_lt h, fun j hj => ?_⟩
  obtain rfl : j = 0 := by simpa using hj
  exact ⟨(cell_of_block h 0).trans rfl, (cell_of_block h 1).trans rfl, (cell_of_block h 2).trans rfl⟩
/-- Three lists of parts that came in, one behind the other. -/
theorem concat_three (A0 A1 A2 : Addr) (k0 k1 k2 N0 N1 N2 sb : Nat) (P0 P1 P2 : List Part) (W : World) (t : TypeId) (hsb : W.heap.size = sb) (h0 : PCame W (some A0) P0) (h1 : PCame W (some A1) P1) (h2 : PCame W (some A2) P2) (e0 : P0.length = N0) (e1 : P1.length = N1) (e2 : P2.length = N2) (b0 : 1 ≤ N0) (m0 : N0 ≤ 60000) (m1 : N1 ≤ 60000) (m2 : N2 ≤ 60000) :
    Calls Tryz.prog 37 #[.slice (some ⟨sb, 0, none⟩) 3 3] (W.alloc (.cells #[.slice (some A0) N0 k0, .slice (some A1) N1 k1, .slice (some A2) N2 k2] t)) fun e w' => ∃ g c, e = .returned (.slice (some ⟨g, 0, none⟩) (N0 + N1 + N2) c) ∧ PCame w' (some ⟨g, 0, none⟩) (P0 ++ P1 ++ P2) ∧ Below W.heap.size W w' := by
  subst hsb e0 e1 e2
  have hn := heap_alloc_new W (.cells #[.slice (some A0) P0.length k0, .slice (some A1) P1.length k1, .slice (some A2) P2.length k2] t)
  have hb := bstart W (.cells #[.slice (some A0) P0.length k0, .slice (some A1) P1.length k1, .slice (some A2) P2.length k2] t)
  generalize W.alloc _ = X at hn hb
  have hT : ThreeP X W.heap.size (fun i => if i = 0 then A0 else if i = 1 then A1 else A2) (fun i => if i = 0 then k0 else if i = 1 then k1 else k2) (fun i => if i = 0 then P0 else if i = 1 then P1 else P2) := by
    refine ⟨block_lt hn, fun i hi => ?_, fun i hi => ?_, fun i hi => ?_⟩
    · rw [cell_of_block hn i]
      rcases (show i = 0 ∨ i = 1 ∨ i = 2 by omega) with rfl | rfl | rfl <;> simp
    · rcases (show i = 0 ∨ i = 1 ∨ i = 2 by omega) with rfl | rfl | rfl
      · exact h0.called hb
      · exact h1.called hb
      · exact h2.called hb
    · rcases (show i = 0 ∨ i = 1 ∨ i = 2 by omega) with rfl | rfl | rfl
      · exact m0
      · exact m1
      · exact m2
  have hc : catP (fun i => if i = 0 then P0 else if i = 1 then P1 else P2) 3 = P0 ++ P1 ++ P2 := rfl
  have hl : (catP (fun i => if i = 0 then P0 else if i = 1 then P1 else P2) 3).length = P0.length + P1.length + P2.length := by rw [hc, List.length_append, List.length_append]
  refine (concat_parts W.heap.size 3 _ _ _ X hT (by rw [hl]; omega)).mono ?_
  rintro e w' ⟨g, c, rfl, hr, hb2⟩
  rw [hl] at hr ⊢
  exact ⟨g, c, rfl, own_pcame hr hl, bnext hb hb2⟩

theorem lensP_length {L : List Tok} : 3 ≤ (lensP L).length ∧ (lensP L).length ≤ 654 := by
  have h1 := (toldN_bd (runsW L))
  have h2 := runsW_length L
  have h3 := runsP_length (runsW L) (runsW L)
  have h4 : (toldP (runsW L)).length = toldN (runsW L) := by simp [toldP]
  have h5 : (wovenHead L).length = 3 := rfl
  unfold lensP
  rw [List.length_append, List.length_append]
  omega

set_option maxRecDepth 100000 in
set_option maxHeartbeats 6400000 in
theorem woven_in (s : ByteArray) (c : Int) (a : Option Addr) (cp : Nat) (L : List Tok) (last : Bool) (w : World) (hs : s.size ≤ 1048576) (hc1 : -9223372036854775808 ≤ c) (hc2 : c ≤ 9223372036854775807) (hC : TCame w a L.length (fun j => L.getD j (0, 0, 0))) (hR : TokensRight L) (hG : OrderG w) :
    Calls Tryz.prog 12 #[.agg #[.string s, .int .i64 c], .slice a L.length cp, .bool last] w fun e w' => e = .returned (blkAns (wovenOut s c L last)) ∧ Below w.heap.size w w' := by
  have HX := hid_of (SBx.start w s c)
  have HC := hid_of hC
  have HG := hid_of hG
  have HR := hid_of hR
  have e1 : wovenOut s c L last = (outSt s c).bind fun o => bitsOut o (partBits ([headP 2 last] ++ lensP L ++ symsP (lenA L) (sizeA L) (lenB L) (sizeB L) (symsL L ++ [(false, (256, 0, 0))]))) := by
    unfold wovenOut
    rw [if_pos hR]
    congr 1
    funext o
    rw [partBits_app, partBits_app, partBits_one, headP_bits (by omega), progP_bits, List.append_assoc]
  have hRt : ∀ p ∈ [headP 2 last] ++ lensP L ++ symsP (lenA L) (sizeA L) (lenB L) (sizeB L) (symsL L ++ [(false, (256, 0, 0))]), Right p := by
    intro p hp
    rcases List.mem_append.mp hp with hp | hp
    · rcases List.mem_append.mp hp with hp | hp
      · rw [List.mem_singleton.mp hp]
        exact headP_right (by omega) last
      · exact lensP_right hR p hp
    · exact (woven_body hR).progR p hp
  have hlen : (symsP (lenA L) (sizeA L) (lenB L) (sizeB L) (symsL L ++ [(false, (256, 0, 0))])).length ≤ 60000 ∧ 0 < (symsP (lenA L) (sizeA L) (lenB L) (sizeB L) (symsL L ++ [(false, (256, 0, 0))])).length := by
    rw [symsP_length, List.length_append, List.length_singleton]
    have := symsL_length L
    have := hR.1
    omega
  have hll := lensP_length (L := L)
  have hE : BodyOk (lenA L) (sizeA L) (lenB L) (sizeB L) [] := ⟨(woven_body hR).c1, (woven_body hR).e1, (woven_body hR).m2, (woven_body hR).w2, (fun t ht => by cases ht), (fun t ht => by cases ht), (fun t ht => by cases ht)⟩
  have hB1 : ∀ t ∈ L, TokRight t → BodyOk (lenA L) (sizeA L) (lenB L) (sizeB L) [t] := fun t ht _ => ⟨(woven_body hR).c1, (woven_body hR).e1, (woven_body hR).m2, (woven_body hR).w2, (fun u hu => by rw [List.mem_singleton.mp hu]; exact hR.2 t ht), (fun u hu => by rw [List.mem_singleton.mp hu]; exact (woven_body hR).s1 t ht), (fun u hu => by rw [List.mem_singleton.mp hu]; exact (woven_body hR).s2 t ht)⟩
  have HTP : Hid (∀ W a1 a2 k1 k2, TCame W a L.length (fun j => L.getD j (0, 0, 0)) → Came W a1 (sizeA L) (lenA L) → Came W a2 (sizeB L) (lenB L) → Calls Tryz.prog 35 #[.slice a L.length cp, .slice a1 (sizeA L) k1, .slice a2 (sizeB L) k2] W fun e w' => ∃ g3 k3, e = .returned (.tuple #[.slice (some ⟨g3, 0, none⟩) (symsP (lenA L) (sizeA L) (lenB L) (sizeB L) (symsL L ++ [(false, (256, 0, 0))])).length k3, .bool true]) ∧ PCame w' (some ⟨g3, 0, none⟩) (symsP (lenA L) (sizeA L) (lenB L) (sizeB L) (symsL L ++ [(false, (256, 0, 0))])) ∧ Below W.heap.size W w') := by
    intro W a1 a2 k1 k2 q1 q2 q3
    refine (tokenParts_any a a1 a2 cp k1 k2 (lenA L) (lenB L) (sizeA L) (sizeB L) L W q1 q2 q3 hR.1 hE hB1).mono ?_
    rintro e w' ⟨hy, _, hB⟩
    obtain ⟨v, rfl, ho⟩ := hy hR.2
    obtain ⟨g3, k3, rfl⟩ := own_slice ho hlen.2
    exact ⟨g3, k3, rfl, own_pcame ho rfl, hB⟩
  have HLP : Hid (∀ W a1 a2 k1 k2, (Came W a1 (sizeA L) (lenA L) ∧ Came W a2 (sizeB L) (lenB L) ∧ OrderG W) → Calls Tryz.prog 38 #[.slice a1 (sizeA L) k1, .slice a2 (sizeB L) k2] W fun e w' => ∃ g3 k3, e = .returned (.slice (some ⟨g3, 0, none⟩) (lensP L).length k3) ∧ PCame w' (some ⟨g3, 0, none⟩) (lensP L) ∧ Below W.heap.size W w') := by
    intro W a1 a2 k1 k2 q
    refine (lengthParts_any a1 a2 k1 k2 L W q.1 q.2.1 hR q.2.2).mono ?_
    rintro e w' ⟨v, rfl, ho, hB⟩
    obtain ⟨g3, k3, rfl⟩ := own_slice ho (by omega)
    exact ⟨g3, k3, rfl, own_pcame ho rfl, hB⟩
  have HTL : Hid (∀ W, TCame W a L.length (fun j => L.getD j (0, 0, 0)) → Calls Tryz.prog 36 #[.slice a L.length cp] W fun e w' => ∃ a1 c1 a2 c2, e = .returned (.tuple #[.slice a1 (sizeA L) c1, .slice a2 (sizeB L) c2, .bool true]) ∧ Came w' a1 (sizeA L) (lenA L) ∧ Came w' a2 (sizeB L) (lenB L) ∧ Below W.heap.size W w') := by
    intro W hC
    refine ((tokLen_answer a cp L W hC (by have := hR.1; omega)).1 hR).mono ?_
    rintro e w' ⟨a1, c1, a2, c2, rfl, q1, q2, _, hB⟩
    exact ⟨a1, c1, a2, c2, rfl, q1.came, q2.came, hB⟩
  have HRR : Hid (∀ p ∈ [headP 2 last] ++ lensP L ++ symsP (lenA L) (sizeA L) (lenB L) (sizeB L) (symsL L ++ [(false, (256, 0, 0))]), Right p) := hRt
  have HE1 := hid_of e1
  clear hC hG hR e1 hRt hE hB1
  generalize symsP (lenA L) (sizeA L) (lenB L) (sizeB L) (symsL L ++ [(false, (256, 0, 0))]) = P at *
  generalize hNL : (lensP L).length = NL at *
  generalize hNP : P.length = NP at *
  have HNL := hid_of hNL
  have HNP := hid_of hNP
  clear hNL hNP
  obtain ⟨tt, nn, bb, he⟩ := blkAns_form ((outSt s c).bind fun o => bitsOut o (partBits ([headP 2 last] ++ lensP L ++ P)))
  have HWP : Hid (∀ (W : World) (g' cap' : Nat), PCame W (some ⟨g', 0, none⟩) ([headP 2 last] ++ lensP L ++ P) → Calls Tryz.prog 33 #[.agg #[.string s, .int .i64 c], .slice (some ⟨g', 0, none⟩) (1 + NL + NP) cap'] W fun e w' => e = .returned (.tuple #[.agg #[.string tt, .int .i64 nn], .bool bb]) ∧ Below W.heap.size W w') := by
    intro W g' cap' hp
    have hl : ([headP 2 last] ++ lensP L ++ P).length = 1 + NL + NP := by rw [List.length_append, List.length_append, HNL.out, HNP.out]; rfl
    have h := withParts_any s c (some ⟨g', 0, none⟩) cap' ([headP 2 last] ++ lensP L ++ P) W hp HRR.out (by rw [hl]; omega) (by unfold maxLen; omega) hc1 hc2
    rw [he, hl] at h
    exact h
  have HCC : Hid (∀ (W : World) (g0 g1 g3 k1 k3 sb : Nat) (t : TypeId), W.heap.size = sb → PCame W (some ⟨g0, 0, none⟩) [headP 2 last] → PCame W (some ⟨g1, 0, none⟩) (lensP L) → PCame W (some ⟨g3, 0, none⟩) P → Calls Tryz.prog 37 #[.slice (some ⟨sb, 0, none⟩) 3 3] (W.alloc (.cells #[.slice (some ⟨g0, 0, none⟩) 1 1, .slice (some ⟨g1, 0, none⟩) NL k1, .slice (some ⟨g3, 0, none⟩) NP k3] t)) fun e w' => ∃ g c, e = .returned (.slice (some ⟨g, 0, none⟩) (1 + NL + NP) c) ∧ PCame w' (some ⟨g, 0, none⟩) ([headP 2 last] ++ lensP L ++ P) ∧ Below W.heap.size W w') := by
    intro W g0 g1 g3 k1 k3 sb t q0 q1 q2 q3
    exact concat_three ⟨g0, 0, none⟩ ⟨g1, 0, none⟩ ⟨g3, 0, none⟩ 1 k1 k3 1 NL NP sb [headP 2 last] (lensP L) P W t q0 q1 q2 q3 rfl HNL.out HNP.out (by omega) (by omega) (by omega) (by omega)
  have HE2 : Hid (blkAns (wovenOut s c L last) = .tuple #[.agg #[.string tt, .int .i64 nn], .bool bb]) := by
    show _ = _
    rw [HE1.out, he]
  clear he HE1 HRR
  generalize hnA : sizeA L = nA at *
  generalize hnB : sizeB L = nB at *
  clear hnA hnB
  go_enter Tryz.func12, Tryz.ntmps12
  go_wp2_with fail
  generalize (w.alloc _).alloc _ = X at HX ⊢
  refine (HTL.out X (HC.out.called HX.out.1)).mono ?_
  rintro e w1 ⟨a1, k1, a2, k2, rfl, q1, q2, b1⟩
  have HX1 := hid_of (HX.out.called b1)
  have HA1 := hid_of (And.intro (q1.called (Below.refl _ _)) (q2.called (Below.refl _ _)))
  clear q1 q2 b1 HX HTL
  go_wp2_with fail
  refine (HTP.out w1 a1 a2 k1 k2 (HC.out.called HX1.out.1) HA1.out.1 HA1.out.2).mono ?_
  rintro e w2 ⟨g3, k3, rfl, p2, b2⟩
  have HX2 := hid_of (HX1.out.called b2)
  have HP2 := hid_of p2
  have HA2 : Hid (Came w2 a1 nA (lenA L) ∧ Came w2 a2 nB (lenB L) ∧ OrderG w2) := ⟨HA1.out.1.called b2, HA1.out.2.called b2, HG.out.below HX2.out.1 HG.out.1⟩
  clear p2 b2 HX1 HA1 HTP HC HG
  obtain ⟨x0, x1, xl⟩ := HX2.out.cells
  go_wp2_with fail
  go_region_held_law (fun u => u.cell? ⟨w.heap.size, 0, none⟩ = some (.string s) ∧ u.cell? ⟨w.heap.size, 1, none⟩ = some (.int .i64 c)) (first | go_keep | (refine ⟨?_, ?_⟩ <;> first | assumption | go_keep | (simp [*]; done))) (first | (go_at_call 31; refine (headPart_any 2 last _ (by omega)).mono ?_; rintro e w' ⟨rfl, hB⟩; have HXW := hid_of (SBx.called (X := w2.drew) (by exact HX2.out.drew) hB); have HPW := hid_of (PCame.called (w := w2.drew) (by exact HP2.out) hB); have HAW : Hid (Came w' a1 nA (lenA L) ∧ Came w' a2 nB (lenB L) ∧ OrderG w') := ⟨Came.called (w := w2.drew) (by exact HA2.out.1) hB, Came.called (w := w2.drew) (by exact HA2.out.2.1) hB, OrderG.below (w := w2.drew) (by exact HA2.out.2.2) hB (by exact HA2.out.2.2.1)⟩; have hcw := HXW.out.cells; have x0' := hcw.1; have x1' := hcw.2.1; clear hB hcw) | (go_at_call 38; guard_target = Calls Tryz.prog _ _ (World.alloc _ _) _; refine (HLP.out (w'.alloc _) a1 a2 k1 k2 ⟨HAW.out.1.called (bstart _ _), HAW.out.2.1.called (bstart _ _), HAW.out.2.2.below (bstart _ _) HAW.out.2.2.1⟩).mono ?_; rintro e u ⟨g5, k5, rfl, p5, b5⟩; have HX5 := hid_of (HXW.out.called (bnext (bstart w' _) b5)); have HP5 := hid_of (HPW.out.called (bnext (bstart w' _) b5)); have HL5 := hid_of p5; have HI5 : Hid (PCame u (some ⟨w'.heap.size, 0, none⟩) [headP 2 last]) := PCame.called (lit_came w' _ (headP 2 last) _ rfl) b5; have hc5 := HX5.out.cells; have y0 := hc5.1; have y1 := hc5.2.1; clear p5 b5 hc5) | (go_at_call 38; refine (HLP.out w' a1 a2 k1 k2 HAW.out).mono ?_; rintro e u ⟨g5, k5, rfl, p5, b5⟩; have HX5 := hid_of (HXW.out.called b5); have HP5 := hid_of (HPW.out.called b5); have HL5 := hid_of p5; have hc5 := HX5.out.cells; have y0 := hc5.1; have y1 := hc5.2.1; clear p5 b5 hc5) | (go_at_call 37; refine (HCC.out u w'.heap.size g5 g3 k5 k3 _ _ rfl HI5.out HL5.out HP5.out).mono ?_; rintro e u2 ⟨g6, k6, rfl, p6, b6⟩; have HX6 := hid_of (HX5.out.called b6); have HP6 := hid_of p6; have hc6 := HX6.out.cells; have v0 := hc6.1; have v1 := hc6.2.1; clear p6 b6 hc6) | (go_at_call 37; refine (HCC.out (u.alloc (.cells #[.int .i64 (headP 2 last).1, .int .i64 3, .bool false] 60)) u.heap.size g5 g3 k5 k3 _ _ (by simp) (lit_came u _ (headP 2 last) _ rfl) (HL5.out.called (bstart _ _)) (HP5.out.called (bstart _ _))).mono ?_; rintro e u2 ⟨g6, k6, rfl, p6, b6⟩; have HX6 := hid_of (HX5.out.called (bnext (bstart u _) b6)); have HP6 := hid_of p6; have hc6 := HX6.out.cells; have v0 := hc6.1; have v1 := hc6.2.1; clear p6 b6 hc6) | (go_at_call 33; refine (HWP.out u2 g6 k6 HP6.out).mono ?_; rintro e w4 ⟨rfl, hB4⟩; have HX7 := hid_of (HX6.out.called hB4); have hc4 := HX7.out.cells; have u0 := hc4.1; have u1 := hc4.2.1; have hr4 := HX7.out.res; have z0 := hr4.1; have z1 := hr4.2.1; have zf := hr4.2.2.1; have zl := hr4.2.2.2; clear hB4 hc4 hr4))
  all_goals
    go_wp2_with fail
    refine bodyPost_ret (v := .tuple #[.agg #[.string tt, .int .i64 nn], .bool bb]) ?_ rfl ⟨by rw [HE2.out], ?_⟩
    · simp [results, Tryz.results12, go_sem, z0, z1]
    · exact two_below HX7.out.1 (Nat.le_succ _) _ _

set_option maxHeartbeats 800000 in
theorem woven_answer : WovenAnswer := by
  intro s c a cp L last w hs hc1 hc2 hC hL hG
  by_cases hR : TokensRight L
  · exact woven_in s c a cp L last w hs hc1 hc2 hC hR hG
  · have e1 : wovenOut s c L last = none := if_neg hR
    rw [e1]
    have HX := hid_of (SBx.start w s c)
    have HTL : Hid (∀ W, TCame W a L.length (fun j => L.getD j (0, 0, 0)) → Calls Tryz.prog 36 #[.slice a L.length cp] W fun e w' => e = .returned (.tuple #[.slice none 0 0, .slice none 0 0, .bool false]) ∧ Below W.heap.size W w') := fun W hC => (tokLen_answer a cp L W hC hL).2 hR
    have HC := hid_of hC
    clear hC hG
    go_enter Tryz.func12, Tryz.ntmps12
    go_wp2_with fail
    generalize (w.alloc _).alloc _ = X at HX ⊢
    refine (HTL.out X (HC.out.called HX.out.1)).mono ?_
    rintro e w1 ⟨rfl, b1⟩
    have HX1 := hid_of (HX.out.called b1)
    clear b1 HX HTL HC
    obtain ⟨z0, z1, zf, zl⟩ := HX1.out.res
    go_wp2_with fail
    refine bodyPost_ret (v := .tuple #[.agg #[.string ⟨#[]⟩, .int .i64 0], .bool false]) ?_ rfl ⟨rfl, two_below HX1.out.1 (Nat.le_succ _) _ _⟩
    simp [results, Tryz.results12, go_sem, z0, z1]
end Go.Proofs.YtbcnlggkoidmmaaGreatDoor
