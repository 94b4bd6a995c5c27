/-
  The walk of the program's WovenBlock.
-/
import Derived.Test.YtbcnlggkoidmmaaGreatDoorRows
import Derived.Test.YtbcnlggkoidmmaaGreatDoorPk01
import Derived.Test.YtbcnlggkoidmmaaGreatDoorPk04
import Derived.Test.YtbcnlggkoidmmaaGreatDoorPk02
import Derived.Test.YtbcnlggkoidmmaaGreatDoorPk06
import Derived.Test.YtbcnlggkoidmmaaGreatDoorPk19
import Derived.Test.YtbcnlggkoidmmaaGreatDoorPk23
import Derived.Test.YtbcnlggkoidmmaaGreatDoorPk27
import Derived.Test.YtbcnlggkoidmmaaGreatDoorPk20
import Derived.Test.YtbcnlggkoidmmaaGreatDoorPk22
import Derived.Test.YtbcnlggkoidmmaaGreatDoorPk43
import Derived.Test.YtbcnlggkoidmmaaGreatDoorPk32
import Derived.Test.YtbcnlggkoidmmaaGreatDoorPk24
import Derived.Test.YtbcnlggkoidmmaaGreatDoorPk50
import Derived.WalkKit
import Derived.ProofKit
import Derived.WalkLawsBesides
import Derived.RegionTactic
import Derived.Deep.RegionWith
import Derived.Deep.RegionHeldLaw
import Derived.Deep.RegionHeld3
import Derived.Below
import Derived.OwnWalk
import Derived.Lib.SmallJoins
namespace Go.Proofs.YtbcnlggkoidmmaaGreatDoor
open Go.RowKit Go.Joins OutMath TokMath TrimMath TellMath TokLenMath BlockMath PartMath BodyMath WovenMath

theorem own_pcame {w : World} {e : TypeId} {S N g cap : Nat} {P : List Part} (h : w.ownsRow S e 3 (.slice (some ⟨g, 0, none⟩) N cap) N (pcells P)) (hN : P.length = N) : PCame w (some ⟨g, 0, none⟩) P := by
  subst hN
  obtain ⟨a, c, hv, _, _, _, hp, _⟩ := pcame_of_own h rfl
  cases hv
  exact hp
theorem lit_came (w : World) (e : TypeId) (p : Part) (n : Nat) (hn : w.heap.size = n) : PCame (w.alloc (.cells #[.int .i64 p.1, .int .i64 (p.2.1 : Int), .bool p.2.2] e)) (some ⟨n, 0, none⟩) [p] := by
  subst hn
  have h := heap_alloc_new w (.cells #[.int .i64 p.1, .int .i64 (p.2.1 : Int), .bool p.2.2] e)
  refine .inr ⟨w.heap.size, 0, rfl, block_lt h, fun j hj => ?_⟩
  obtain rfl : j = 0 := by simpa using hj
  exact ⟨(cell_of_block h 0).trans rfl, (cell_of_block h 1).trans rfl, (cell_of_block h 2).trans rfl⟩
/-- Three lists of parts that came in, one behind the other. -/
theorem concat_three (A0 A1 A2 : Addr) (k0 k1 k2 N0 N1 N2 sb : Nat) (P0 P1 P2 : List Part) (W : World) (t : TypeId) (hsb : W.heap.size = sb) (h0 : PCame W (some A0) P0) (h1 : PCame W (some A1) P1) (h2 : PCame W (some A2) P2) (e0 : P0.length = N0) (e1 : P1.length = N1) (e2 : P2.length = N2) (b0 : 1 ≤ N0) (m0 : N0 ≤ 60000) (m1 : N1 ≤ 60000) (m2 : N2 ≤ 60000) :
    Calls Tryz.prog 37 #[.slice (some ⟨sb, 0, none⟩) 3 3] (W.alloc (.cells #[.slice (some A0) N0 k0, .slice (some A1) N1 k1, .slice (some A2) N2 k2] t)) fun e w' => ∃ g c, e = .returned (.slice (some ⟨g, 0, none⟩) (N0 + N1 + N2) c) ∧ PCame w' (some ⟨g, 0, none⟩) (P0 ++ P1 ++ P2) ∧ Below W.heap.size W w' := by
  subst hsb e0 e1 e2
  have hn := heap_alloc_new W (.cells #[.slice (some A0) P0.length k0, .slice (some A1) P1.length k1, .slice (some A2) P2.length k2] t)
  have hb := bstart W (.cells #[.slice (some A0) P0.length k0, .slice (some A1) P1.length k1, .slice (some A2) P2.length k2] t)
  generalize W.alloc _ = X at hn hb
  have hT : ThreeP X W.heap.size (fun i => if i = 0 then A0 else if i = 1 then A1 else A2) (fun i => if i = 0 then k0 else if i = 1 then k1 else k2) (fun i => if i = 0 then P0 else if i = 1 then P1 else P2) := by
    refine ⟨block_lt hn, fun i hi => ?_, fun i hi => ?_, fun i hi => ?_⟩
    · rw [cell_of_block hn i]
      rcases (show i = 0 ∨ i = 1 ∨ i = 2 by omega) with rfl | rfl | rfl <;> simp
    · rcases (show i = 0 ∨ i = 1 ∨ i = 2 by omega) with rfl | rfl | rfl
      · exact h0.called hb
      · exact h1.called hb
      · exact h2.called hb
    · rcases (show i = 0 ∨ i = 1 ∨ i = 2 by omega) with rfl | rfl | rfl
      · exact m0
      · exact m1
      · exact m2
  have hc : catP (fun i => if i = 0 then P0 else if i = 1 then P1 else P2) 3 = P0 ++ P1 ++ P2 := rfl
  have hl : (catP (fun i => if i = 0 then P0 else if i = 1 then P1 else P2) 3).length = P0.length + P1.length + P2.length := by rw [hc, List.length_append, List.length_append]
  refine (concat_parts W.heap.size 3 _ _ _ X hT (by rw [hl]; omega)).mono ?_
  rintro e w' ⟨g, c, rfl, hr, hb2⟩
  rw [hl] at hr ⊢
  exact ⟨g, c, rfl, own_pcame hr hl, bnext hb hb2⟩

theorem lensP_length {L : List Tok} : 3 ≤ (lensP L).length ∧ (lensP L).length ≤ 654 := by
  have h1 := (toldN_bd (runsW L))
  have h2 := runsW_length L
  have h3 := runsP_length (runsW L) (runsW L)
  have h4 : (toldP (runsW L)).length = toldN (runsW L) := by simp [toldP]
  have h5 : (wovenHead L).length = 3 := rfl
  unfold lensP
  rw [List.length_append, List.length_append]
  omega

set_option maxRecDepth 100000 in
set_option maxHeartbeats 6400000 in
theorem woven_in (s : ByteArray) (c : Int) (a : Option Addr) (cp : Nat) (L : List Tok) (last : Bool) (w : World) (hs : s.size ≤ 1048576) (hc1 : -9223372036854775808 ≤ c) (hc2 : c ≤ 9223372036854775807) (hC : TCame w a L.length (fun j => L.getD j (0, 0, 0))) (hR : TokensRight L) (hG : OrderG w) :
    Calls Tryz.prog 12 #[.agg #[.string s, .int .i64 c], .slice a L.length cp, .bool last] w fun e w' => e = .returned (blkAns (wovenOut s c L last)) ∧ Below w.heap.size w w' := by
  have HX := hid_of (SBx.start w s c)
  have HC := hid_of hC
  have HG := hid_of hG
  have HR := hid_of hR
  have e1 : wovenOut s c L last = (outSt s c).bind fun o => bitsOut o (partBits ([headP 2 last] ++ lensP L ++ symsP (lenA L) (sizeA L) (lenB L) (sizeB L) (symsL L ++ [(false, (256, 0, 0))]))) := by
    unfold wovenOut
    rw [if_pos hR]
    congr 1
    funext o
    rw [partBits_app, partBits_app, partBits_one, headP_bits (by omega), progP_bits, List.append_assoc]
  have hRt : ∀ p ∈ [headP 2 last] ++ lensP L ++ symsP (lenA L) (sizeA L) (lenB L) (sizeB L) (symsL L ++ [(false, (256, 0, 0))]), Right p := by
    intro p hp
    rcases List.mem_append.mp hp with hp | hp
    · rcases List.mem_append.mp hp with hp | hp
      · rw [List.mem_singleton.mp hp]
        exact headP_right (by omega) last
      · exact lensP_right hR p hp
    · exact (woven_body hR).progR p hp
  have hlen : (symsP (lenA L) (sizeA L) (lenB L) (sizeB L) (symsL L ++ [(false, (256, 0, 0))])).length ≤ 60000 ∧ 0 < (symsP (lenA L) (sizeA L) (lenB L) (sizeB L) (symsL L ++ [(false, (256, 0, 0))])).length := by
    rw [symsP_length, List.length_append, List.length_singleton]
    have := symsL_length L
    have := hR.1
    omega
  have hll := lensP_length (L := L)
  have hE : BodyOk (lenA L) (sizeA L) (lenB L) (sizeB L) [] := ⟨(woven_body hR).c1, (woven_body hR).e1, (woven_body hR).m2, (woven_body hR).w2, (fun t ht => by cases ht), (fun t ht => by cases ht), (fun t ht => by cases ht)⟩
  have hB1 : ∀ t ∈ L, TokRight t → BodyOk (lenA L) (sizeA L) (lenB L) (sizeB L) [t] := fun t ht _ => ⟨(woven_body hR).c1, (woven_body hR).e1, (woven_body hR).m2, (woven_body hR).w2, (fun u hu => by rw [List.mem_singleton.mp hu]; exact hR.2 t ht), (fun u hu => by rw [List.mem_singleton.mp hu]; exact (woven_body hR).s1 t ht), (fun u hu => by rw [List.mem_singleton.mp hu]; exact (woven_body hR).s2 t ht)⟩
  have HTP : Hid (∀ W a1 a2 k1 k2, TCame W a L.length (fun j => L.getD j (0, 0, 0)) → Came W a1 (sizeA L) (lenA L) → Came W a2 (sizeB L) (lenB L) → Calls Tryz.prog 35 #[.slice a L.length cp, .slice a1 (sizeA L) k1, .slice a2 (sizeB L) k2] W fun e w' => ∃ g3 k3, e = .returned (.tuple #[.slice (some ⟨g3, 0, none⟩) (symsP (lenA L) (sizeA L) (lenB L) (sizeB L) (symsL L ++ [(false, (256, 0, 0))])).length k3, .bool true]) ∧ PCame w' (some ⟨g3, 0, none⟩) (symsP (lenA L) (sizeA L) (lenB L) (sizeB L) (symsL L ++ [(false, (256, 0, 0))])) ∧ Below W.heap.size W w') := by
    intro W a1 a2 k1 k2 q1 q2 q3
    refine (tokenParts_any a a1 a2 cp k1 k2 (lenA L) (lenB L) (sizeA L) (sizeB L) L W q1 q2 q3 hR.1 hE hB1).mono ?_
    rintro e w' ⟨hy, _, hB⟩
    obtain ⟨v, rfl, ho⟩ := hy hR.2
    obtain ⟨g3, k3, rfl⟩ := own_slice ho hlen.2
    exact ⟨g3, k3, rfl, own_pcame ho rfl, hB⟩
  have HLP : Hid (∀ W a1 a2 k1 k2, (Came W a1 (sizeA L) (lenA L) ∧ Came W a2 (sizeB L) (lenB L) ∧ OrderG W) → Calls Tryz.prog 38 #[.slice a1 (sizeA L) k1, .slice a2 (sizeB L) k2] W fun e w' => ∃ g3 k3, e = .returned (.slice (some ⟨g3, 0, none⟩) (lensP L).length k3) ∧ PCame w' (some ⟨g3, 0, none⟩) (lensP L) ∧ Below W.heap.size W w') := by
    intro W a1 a2 k1 k2 q
    refine (lengthParts_any a1 a2 k1 k2 L W q.1 q.2.1 hR q.2.2).mono ?_
    rintro e w' ⟨v, rfl, ho, hB⟩
    obtain ⟨g3, k3, rfl⟩ := own_slice ho (by omega)
    exact ⟨g3, k3, rfl, own_pcame ho rfl, hB⟩
  have HTL : Hid (∀ W, TCame W a L.length (fun j => L.getD j (0, 0, 0)) → Calls Tryz.prog 36 #[.slice a L.length cp] W fun e w' => ∃ a1 c1 a2 c2, e = .returned (.tuple #[.slice a1 (sizeA L) c1, .slice a2 (sizeB L) c2, .bool true]) ∧ Came w' a1 (sizeA L) (lenA L) ∧ Came w' a2 (sizeB L) (lenB L) ∧ Below W.heap.size W w') := by
    intro W hC
    refine ((tokLen_answer a cp L W hC (by have := hR.1; omega)).1 hR).mono ?_
    rintro e w' ⟨a1, c1, a2, c2, rfl, q1, q2, _, hB⟩
    exact ⟨a1, c1, a2, c2, rfl, q1.came, q2.came, hB⟩
  have HRR : Hid (∀ p ∈ [headP 2 last] ++ lensP L ++ symsP (lenA L) (sizeA L) (lenB L) (sizeB L) (symsL L ++ [(false, (256, 0, 0))]), Right p) := hRt
  have HE1 := hid_of e1
  clear hC hG hR e1 hRt hE hB1
  generalize symsP (lenA L) (sizeA L) (lenB L) (sizeB L) (symsL L ++ [(false, (256, 0, 0))]) = P at *
  generalize hNL : (lensP L).length = NL at *
  generalize hNP : P.length = NP at *
  have HNL := hid_of hNL
  have HNP := hid_of hNP
  clear hNL hNP
  obtain ⟨tt, nn, bb, he⟩ := blkAns_form ((outSt s c).bind fun o => bitsOut o (partBits ([headP 2 last] ++ lensP L ++ P)))
  have HWP : Hid (∀ (W : World) (g' cap' : Nat), PCame W (some ⟨g', 0, none⟩) ([headP 2 last] ++ lensP L ++ P) → Calls Tryz.prog 33 #[.agg #[.string s, .int .i64 c], .slice (some ⟨g', 0, none⟩) (1 + NL + NP) cap'] W fun e w' => e = .returned (.tuple #[.agg #[.string tt, .int .i64 nn], .bool bb]) ∧ Below W.heap.size W w') := by
    intro W g' cap' hp
    have hl : ([headP 2 last] ++ lensP L ++ P).length = 1 + NL + NP := by rw [List.length_append, List.length_append, HNL.out, HNP.out]; rfl
    have h := withParts_any s c (some ⟨g', 0, none⟩) cap' ([headP 2 last] ++ lensP L ++ P) W hp HRR.out (by rw [hl]; omega) (by unfold maxLen; omega) hc1 hc2
    rw [he, hl] at h
    exact h
  have HCC : Hid (∀ (W : World) (g0 g1 g3 k1 k3 sb : Nat) (t : TypeId), W.heap.size = sb → PCame W (some ⟨g0, 0, none⟩) [headP 2 last] → PCame W (some ⟨g1, 0, none⟩) (lensP L) → PCame W (some ⟨g3, 0, none⟩) P → Calls Tryz.prog 37 #[.slice (some ⟨sb, 0, none⟩) 3 3] (W.alloc (.cells #[.slice (some ⟨g0, 0, none⟩) 1 1, .slice (some ⟨g1, 0, none⟩) NL k1, .slice (some ⟨g3, 0, none⟩) NP k3] t)) fun e w' => ∃ g c, e = .returned (.slice (some ⟨g, 0, none⟩) (1 + NL + NP) c) ∧ PCame w' (some ⟨g, 0, none⟩) ([headP 2 last] ++ lensP L ++ P) ∧ Below W.heap.size W w') := by
    intro W g0 g1 g3 k1 k3 sb t q0 q1 q2 q3
    exact concat_three ⟨g0, 0, none⟩ ⟨g1, 0, none⟩ ⟨g3, 0, none⟩ 1 k1 k3 1 NL NP sb [headP 2 last] (lensP L) P W t q0 q1 q2 q3 rfl HNL.out HNP.out (by omega) (by omega) (by omega) (by omega)
  have HE2 : Hid (blkAns (wovenOut s c L last) = .tuple #[.agg #[.string tt, .int .i64 nn], .bool bb]) := by
    show _ = _
    rw [HE1.out, he]
  clear he HE1 HRR
  generalize hnA : sizeA L = nA at *
  generalize hnB : sizeB L = nB at *
  clear hnA hnB
  go_enter Tryz.func12, Tryz.ntmps12
  go_wp2_with fail
  generalize (w.alloc _).alloc _ = X at HX ⊢
  refine (HTL.out X (HC.out.called HX.out.1)).mono ?_
  rintro e w1 ⟨a1, k1, a2, k2, rfl, q1, q2, b1⟩
  have HX1 := hid_of (HX.out.called b1)
  have HA1 := hid_of (And.intro (q1.called (Below.refl _ _)) (q2.called (Below.refl _ _)))
  clear q1 q2 b1 HX HTL
  go_wp2_with fail
  refine (HTP.out w1 a1 a2 k1 k2 (HC.out.called HX1.out.1) HA1.out.1 HA1.out.2).mono ?_
  rintro e w2 ⟨g3, k3, rfl, p2, b2⟩
  have HX2 := hid_of (HX1.out.called b2)
  have HP2 := hid_of p2
  have HA2 : Hid (Came w2 a1 nA (lenA L) ∧ Came w2 a2 nB (lenB L) ∧ OrderG w2) := ⟨HA1.out.1.called b2, HA1.out.2.called b2, HG.out.below HX2.out.1 HG.out.1⟩
  clear p2 b2 HX1 HA1 HTP HC HG
  obtain ⟨x0, x1, xl⟩ := HX2.out.cells
  go_wp2_with fail
  go_region_held_law (fun u => u.cell? ⟨w.heap.size, 0, none⟩ = some (.string s) ∧ u.cell? ⟨w.heap.size, 1, none⟩ = some (.int .i64 c)) (first | go_keep | (refine ⟨?_, ?_⟩ <;> first | assumption | go_keep | (simp [*]; done))) (first | (go_at_call 31; refine (headPart_any 2 last _ (by omega)).mono ?_; rintro e w' ⟨rfl, hB⟩; have HXW := hid_of (SBx.called (X := w2.drew) (by exact HX2.out.drew) hB); have HPW := hid_of (PCame.called (w := w2.drew) (by exact HP2.out) hB); have HAW : Hid (Came w' a1 nA (lenA L) ∧ Came w' a2 nB (lenB L) ∧ OrderG w') := ⟨Came.called (w := w2.drew) (by exact HA2.out.1) hB, Came.called (w := w2.drew) (by exact HA2.out.2.1) hB, OrderG.below (w := w2.drew) (by exact HA2.out.2.2) hB (by exact HA2.out.2.2.1)⟩; have hcw := HXW.out.cells; have x0' := hcw.1; have x1' := hcw.2.1; clear hB hcw) | (go_at_call 38; guard_target = Calls Tryz.prog _ _ (World.alloc _ _) _; refine (HLP.out (w'.alloc _) a1 a2 k1 k2 ⟨HAW.out.1.called (bstart _ _), HAW.out.2.1.called (bstart _ _), HAW.out.2.2.below (bstart _ _) HAW.out.2.2.1⟩).mono ?_; rintro e u ⟨g5, k5, rfl, p5, b5⟩; have HX5 := hid_of (HXW.out.called (bnext (bstart w' _) b5)); have HP5 := hid_of (HPW.out.called (bnext (bstart w' _) b5)); have HL5 := hid_of p5; have HI5 : Hid (PCame u (some ⟨w'.heap.size, 0, none⟩) [headP 2 last]) := PCame.called (lit_came w' _ (headP 2 last) _ rfl) b5; have hc5 := HX5.out.cells; have y0 := hc5.1; have y1 := hc5.2.1; clear p5 b5 hc5) | (go_at_call 38; refine (HLP.out w' a1 a2 k1 k2 HAW.out).mono ?_; rintro e u ⟨g5, k5, rfl, p5, b5⟩; have HX5 := hid_of (HXW.out.called b5); have HP5 := hid_of (HPW.out.called b5); have HL5 := hid_of p5; have hc5 := HX5.out.cells; have y0 := hc5.1; have y1 := hc5.2.1; clear p5 b5 hc5) | (go_at_call 37; refine (HCC.out u w'.heap.size g5 g3 k5 k3 _ _ rfl HI5.out HL5.out HP5.out).mono ?_; rintro e u2 ⟨g6, k6, rfl, p6, b6⟩; have HX6 := hid_of (HX5.out.called b6); have HP6 := hid_of p6; have hc6 := HX6.out.cells; have v0 := hc6.1; have v1 := hc6.2.1; clear p6 b6 hc6) | (go_at_call 37; refine (HCC.out (u.alloc (.cells #[.int .i64 (headP 2 last).1, .int .i64 3, .bool false] 60)) u.heap.size g5 g3 k5 k3 _ _ (by simp) (lit_came u _ (headP 2 last) _ rfl) (HL5.out.called (bstart _ _)) (HP5.out.called (bstart _ _))).mono ?_; rintro e u2 ⟨g6, k6, rfl, p6, b6⟩; have HX6 := hid_of (HX5.out.called (bnext (bstart u _) b6)); have HP6 := hid_of p6; have hc6 := HX6.out.cells; have v0 := hc6.1; have v1 := hc6.2.1; clear p6 b6 hc6) | (go_at_call 33; refine (HWP.out u2 g6 k6 HP6.out).mono ?_; rintro e w4 ⟨rfl, hB4⟩; have HX7 := hid_of (HX6.out.called hB4); have hc4 := HX7.out.cells; have u0 := hc4.1; have u1 := hc4.2.1; have hr4 := HX7.out.res; have z0 := hr4.1; have z1 := hr4.2.1; have zf := hr4.2.2.1; have zl := hr4.2.2.2; clear hB4 hc4 hr4))
  all_goals
    go_wp2_with fail
    refine bodyPost_ret (v := .tuple #[.agg #[.string tt, .int .i64 nn], .bool bb]) ?_ rfl ⟨by rw [HE2.out], ?_⟩
    · simp [results, Tryz.results12, go_sem, z0, z1]
    · exact two_below HX7.out.1 (Nat.le_succ _) _ _

set_option maxHeartbeats 800000 in
theorem woven_answer : WovenAnswer := by
  intro s c a cp L last w hs hc1 hc2 hC hL hG
  by_cases hR : TokensRight L
  · exact woven_in s c a cp L last w hs hc1 hc2 hC hR hG
  · have e1 : wovenOut s c L last = none := if_neg hR
    rw [e1]
    have HX := hid_of (SBx.start w s c)
    have HTL : Hid (∀ W, TCame W a L.length (fun j => L.getD j (0, 0, 0)) → Calls Tryz.prog 36 #[.slice a L.length cp] W fun e w' => e = .returned (.tuple #[.slice none 0 0, .slice none 0 0, .bool false]) ∧ Below W.heap.size W w') := fun W hC => (tokLen_answer a cp L W hC hL).2 hR
    have HC := hid_of hC
    clear hC hG
    go_enter Tryz.func12, Tryz.ntmps12
    go_wp2_with fail
    generalize (w.alloc _).alloc _ = X at HX ⊢
    refine (HTL.out X (HC.out.called HX.out.1)).mono ?_
    rintro e w1 ⟨rfl, b1⟩
    have HX1 := hid_of (HX.out.called b1)
    clear b1 HX HTL HC
    obtain ⟨z0, z1, zf, zl⟩ := HX1.out.res
    go_wp2_with fail
    refine bodyPost_ret (v := .tuple #[.agg #[.string ⟨#[]⟩, .int .i64 0], .bool false]) ?_ rfl ⟨rfl, two_below HX1.out.1 (Nat.le_succ _) _ _⟩
    simp [results, Tryz.results12, go_sem, z0, z1]
end Go.Proofs.YtbcnlggkoidmmaaGreatDoor
