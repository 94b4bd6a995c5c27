/-
  The walk of the program's FixedBlock.
  A list of tokens that a law takes in, opened.
-/
import Derived.Test.YtbcnlggkoidmmaaRows
import Derived.Test.YtbcnlggkoidmmaaPk01
import Derived.Test.YtbcnlggkoidmmaaPk07
import Derived.Test.YtbcnlggkoidmmaaPk02
import Derived.Test.YtbcnlggkoidmmaaPk09
import Derived.Test.YtbcnlggkoidmmaaPk12
import Derived.Test.YtbcnlggkoidmmaaPk08
import Derived.Test.YtbcnlggkoidmmaaPk04
import Derived.Test.YtbcnlggkoidmmaaPk13
import Derived.Test.YtbcnlggkoidmmaaPk26
import Derived.Test.YtbcnlggkoidmmaaPk27
import Derived.Test.YtbcnlggkoidmmaaPk10
import Derived.Test.YtbcnlggkoidmmaaPk31
import Derived.Test.YtbcnlggkoidmmaaPk33
import Derived.Test.YtbcnlggkoidmmaaPk34
import Derived.WalkKit
import Derived.ProofKit
import Derived.WalkLawsBesides
import Derived.RegionTactic
import Derived.Deep.RegionWith
import Derived.Deep.RegionHeldLaw
import Derived.Deep.RegionHeld3
import Derived.Deep.AppendLies
import Derived.Below
import Derived.OwnWalk
import Derived.Maps.AppendAt
import Derived.Lib.SmallJoins
import Derived.OpenShut
import Derived.Deep.Slices
import Derived.ChangeSame
namespace Go.Proofs.Ytbcnlggkoidmmaa
open Go.RowKit Go.Joins OutMath InfMath TokMath TrimMath TellMath BlockMath PartMath BodyMath

theorem came_fixed {w : World} {S : Nat} {a : Option Addr} {n c : Nat} {f : Nat → Int} (h : NumRow w S (.slice a n c) (firstJ f n)) : Came w a n f := by
  rcases sl_of_num h (firstJ_length f n).symm with q | ⟨g, e, ho⟩
  · exact .inl q
  · subst e
    exact (ho.congr fun i hi => firstJ_getD f hi).sl.came
theorem PCame.low {w w' : World} {a : Option Addr} {L : List Part} {row : Option Nat} (h : PCame w a L) (hg : w.grownBy w' row) (hr : ∀ k, row = some k → w.heap.size ≤ k) : PCame w' a L := by
  rcases h with h | ⟨g, off, ha, hl, hc⟩
  · exact .inl h
  · have hne : ∀ i, some (⟨g, i, none⟩ : Addr).block ≠ row := fun i e => by have := hr g e.symm; omega
    exact .inr ⟨g, off, ha, Nat.lt_of_lt_of_le hl hg.size, fun j hj => ⟨(hg.cell_far ⟨g, off + j * 3, none⟩ hl (hne _)).trans (hc j hj).1, (hg.cell_far ⟨g, off + j * 3 + 1, none⟩ hl (hne _)).trans (hc j hj).2.1, (hg.cell_far ⟨g, off + j * 3 + 2, none⟩ hl (hne _)).trans (hc j hj).2.2⟩⟩

theorem own_came {w : World} {e : TypeId} {S N g cap : Nat} {P : List Part} (h : w.ownsRow S e 3 (.slice (some ⟨g, 0, none⟩) N cap) N (pcells P)) (hN : P.length = N) : PCame w (some ⟨g, 0, none⟩) P := by
  subst hN
  obtain ⟨a, c, hv, _, _, _, hp, _⟩ := pcame_of_own h rfl
  cases hv
  exact hp

set_option maxRecDepth 100000 in
set_option maxHeartbeats 3200000 in
theorem fixed_in (s : ByteArray) (c : Int) (a : Option Addr) (cp : Nat) (L : List Tok) (last : Bool) (w : World) (hs : s.size ≤ 1048576) (hc1 : -9223372036854775808 ≤ c) (hc2 : c ≤ 9223372036854775807) (hC : TCame w a L.length (fun j => L.getD j (0, 0, 0))) (hL : L.length ≤ 12000) :
    Calls Try.prog 21 #[.agg #[.string s, .int .i64 c], .slice a L.length cp, .bool last] w fun e w' => e = .returned (blkAns (fixedOut s c L last)) ∧ Below w.heap.size w w' := by
  have d : decide ((12000 : Int) < (L.length : Int)) = false := decide_eq_false (by omega)
  have d' : decide (12000 < L.length) = false := decide_eq_false (by omega)
  have HX := hid_of (SBx.start w s c)
  have HC := hid_of hC
  clear hC
  go_enter Try.func21, Try.ntmps21
  go_wp2_with fail
  generalize (w.alloc _).alloc _ = X at HX ⊢
  refine (implFixed X).mono ?_
  rintro e w1 ⟨a1, k1, a2, k2, K, rfl, r1, r2, _, b1, _⟩
  have HX1 := hid_of (HX.out.called b1)
  have HF := hid_of (And.intro (came_fixed r1) (came_fixed r2))
  clear r1 r2 b1 HX
  go_wp2_with fail
  refine (tokenParts_any a a1 a2 cp k1 k2 fixed1 fixed2 288 32 L w1 (HC.out.called HX1.out.1) HF.out.1 HF.out.2 hL (fixed_body (fun t ht => by cases ht)) (fun t _ hT => fixed_body (fun u hu => by rw [List.mem_singleton.mp hu]; exact hT))).mono ?_
  rintro e w2 ⟨hy, hno, hB2⟩
  have HX2 := hid_of (HX1.out.called hB2)
  clear hB2 HX1 HF HC
  by_cases hall : ∀ t ∈ L, TokRight t
  · obtain ⟨v, rfl, hown⟩ := hy hall
    clear hy hno
    have e1 : fixedOut s c L last = (outSt s c).bind fun o => bitsOut o (partBits (headP 1 last :: symsP fixed1 288 fixed2 32 (symsL L ++ [(false, (256, 0, 0))]))) := by
      unfold fixedOut
      rw [if_pos ⟨hL, hall⟩]
      congr 1
      funext o
      rw [partBits_cons, headP_bits (by omega), progP_bits]
    have hR : ∀ p ∈ headP 1 last :: symsP fixed1 288 fixed2 32 (symsL L ++ [(false, (256, 0, 0))]), Right p := by
      intro p hp
      rcases List.mem_cons.mp hp with rfl | hp
      · exact headP_right (by omega) last
      · exact (fixed_body hall).progR p hp
    have hlen : (symsP fixed1 288 fixed2 32 (symsL L ++ [(false, (256, 0, 0))])).length ≤ 100000 ∧ 0 < (symsP fixed1 288 fixed2 32 (symsL L ++ [(false, (256, 0, 0))])).length := by
      rw [symsP_length, List.length_append, List.length_singleton]
      have := symsL_length L
      omega
    obtain ⟨P, hP⟩ : ∃ P, P = symsP fixed1 288 fixed2 32 (symsL L ++ [(false, (256, 0, 0))]) := ⟨_, rfl⟩
    rw [← hP] at e1 hR hlen hown
    obtain ⟨a3, k3, rfl, _, _, _, hPC, _⟩ := pcame_of_own hown rfl
    obtain ⟨g3, o3, rfl⟩ : ∃ g3 o3, a3 = some ⟨g3, o3, none⟩ := by
      rcases hPC with q | ⟨g, off, e, _⟩
      · omega
      · exact ⟨g, off, e⟩
    obtain ⟨N, hN⟩ : ∃ N, N = P.length := ⟨_, rfl⟩
    have HPC := hid_of hPC
    have HR := hid_of hR
    have HE1 := hid_of e1
    have HN := hid_of hN
    have hNl : N ≤ 100000 ∧ 0 < N := by rw [hN]; exact hlen
    rw [← hN]
    clear hP hPC hR e1 hlen hown hN
    obtain ⟨x0, x1, xl⟩ := HX2.out.cells
    obtain ⟨tt, nn, bb, he⟩ := blkAns_form ((outSt s c).bind fun o => bitsOut o (partBits (headP 1 last :: P)))
    have HWP : Hid (∀ (W : World) (g' cap' : Nat), PCame W (some ⟨g', 0, none⟩) (headP 1 last :: P) → Calls Try.prog 39 #[.agg #[.string s, .int .i64 c], .slice (some ⟨g', 0, none⟩) (N + 1) cap'] W fun e w' => e = .returned (.tuple #[.agg #[.string tt, .int .i64 nn], .bool bb]) ∧ Below W.heap.size W w') := by
      intro W g' cap' hp
      have h := withParts_any s c (some ⟨g', 0, none⟩) cap' (headP 1 last :: P) W hp HR.out (by rw [List.length_cons, ← HN.out]; omega) (by unfold maxLen; omega) hc1 hc2
      rw [he, List.length_cons, ← HN.out] at h
      exact h
    have HE2 : Hid (fixedOut s c L last = fixedOut s c L last ∧ blkAns (fixedOut s c L last) = .tuple #[.agg #[.string tt, .int .i64 nn], .bool bb]) := ⟨rfl, by rw [HE1.out, he]⟩
    have HLN : Hid ((headP 1 last :: P).length = N + 1) := by rw [List.length_cons, ← HN.out]; rfl
    clear he HE1
    go_wp2_with fail
    go_region_held_law (fun u => u.cell? ⟨w.heap.size, 0, none⟩ = some (.string s) ∧ u.cell? ⟨w.heap.size, 1, none⟩ = some (.int .i64 c)) (first | go_keep | (refine ⟨?_, ?_⟩ <;> first | assumption | go_keep | (simp [*]; done))) (first | (refine step_parts Try.underlying70 info_part9 _ rfl (.tmp 33) (.tmp 34) rfl (w.heap.size + 2) (.slice (some ⟨w'.heap.size, 0, none⟩) 1 1) [headP 1 last] P (by simp [Act.eval]) (by exact own_lit w' 67 (w.heap.size + 2) hwl [headP 1 last] (by simp)) ⟨g3, o3, none⟩ N k3 (by simp [Act.eval]) HN.out.symm hNl.2 (by exact (HPW.out.called (bstart w' _)).news) (by rw [← HN.out]; simp only [List.length_singleton]; omega) (by exact Nat.le_trans hwl (by simp)) _ rfl (N + 1) (by rw [List.length_append, ← HN.out, List.length_singleton]; omega) ?_; intro g' cap' w3 r1 r2 r3 r4; have HX3 := hid_of ((HXW.out.called (by first | exact bstart w' _ | exact (bstart w' _).drew)).grown r2 hwl); have hc3 := HX3.out.cells; have q0 := hc3.1; have q1 := hc3.2.1; have HP3 : Hid (PCame w3 (some ⟨g', 0, none⟩) (headP 1 last :: P)) := hid_of (own_came r1 HLN.out); clear hc3 r1 r2 r3 r4) | (go_at_call 37; refine (headPart_any 1 last _ (by omega)).mono ?_; rintro e w' ⟨rfl, hB⟩; have HXW := hid_of (SBx.called (X := w2.drew) (by exact HX2.out.drew) hB); have HPW := hid_of (PCame.called (w := w2.drew) (by exact HPC.out) hB); have hcw := HXW.out.cells; have x0' := hcw.1; have x1' := hcw.2.1; have hwl : w.heap.size + 2 ≤ w'.heap.size := HXW.out.res.2.2.2; clear hB hcw) | (go_at_call 39; refine (HWP.out _ _ _ HP3.out).mono ?_; rintro e w4 ⟨rfl, hB4⟩; have HX4 := hid_of (HX3.out.called hB4); have hc4 := HX4.out.cells; have v0 := hc4.1; have v1 := hc4.2.1; have hr4 := HX4.out.res; have z0 := hr4.1; have z1 := hr4.2.1; have zf := hr4.2.2.1; have zl := hr4.2.2.2; clear hB4 hc4 hr4))
    all_goals
      go_wp2_with fail
      refine bodyPost_ret (v := .tuple #[.agg #[.string tt, .int .i64 nn], .bool bb]) ?_ rfl ⟨by rw [HE2.out.2], ?_⟩
      · simp [results, Try.results21, go_sem, z0, z1]
      · exact two_below HX4.out.1 (Nat.le_succ _) _ _
  · obtain ⟨v, rfl⟩ := hno hall
    clear hy hno
    have e1 : fixedOut s c L last = none := if_neg (fun h => hall h.2)
    obtain ⟨z0, z1, zf, zl⟩ := HX2.out.res
    go_wp2_with fail
    refine bodyPost_ret (v := .tuple #[.agg #[.string ⟨#[]⟩, .int .i64 0], .bool false]) ?_ rfl ⟨by rw [e1]; rfl, two_below HX2.out.1 (Nat.le_succ _) _ _⟩
    simp [results, Try.results21, go_sem, z0, z1]

set_option maxHeartbeats 800000 in
theorem fixed_answer : FixedAnswer := by
  intro s c a cp L last w hs hc1 hc2 hC _
  by_cases hL : L.length ≤ 12000
  · exact fixed_in s c a cp L last w hs hc1 hc2 hC hL
  · have d : decide ((12000 : Int) < (L.length : Int)) = true := decide_eq_true (by omega)
    have d' : decide (12000 < L.length) = true := decide_eq_true (by omega)
    have e1 : fixedOut s c L last = none := if_neg (fun h => hL h.1)
    rw [e1]
    have HX := hid_of (SBx.start w s c)
    clear hC
    go_enter Try.func21, Try.ntmps21
    go_wp2_with fail
    generalize (w.alloc _).alloc _ = X at HX ⊢
    obtain ⟨z0, z1, zf, zl⟩ := HX.out.res
    refine bodyPost_ret (v := .tuple #[.agg #[.string ⟨#[]⟩, .int .i64 0], .bool false]) ?_ rfl ⟨rfl, HX.out.1⟩
    simp [results, Try.results21, go_sem, z0, z1]
end Go.Proofs.Ytbcnlggkoidmmaa

namespace Go.Proofs.Ytbcnlggkoidmmaa
open Go.ChangeShapes Go.WideShapes Go.ChangeAt Go.RowKit Go.Joins Go.Deep TokMath

set_option maxRecDepth 100000 in
theorem open_tokens {H : Type} {enc : TypeId × Value → H} {W : World} {spare : Nat → Bool} {fuel : Nat} {a : Option Addr} {len cap : Nat} {x : DataW H × List MemPlace} (h : DataW.trod enc Try.prog W 0 spare true fuel 22 [.slice a len cap] = some x) :
    ∃ L : List Tok, len = L.length ∧ TCame W a len (fun j => L.getD j (0, 0, 0)) ∧ (∀ t ∈ L, (Lit.int .i64 t.1).wf = true ∧ (Lit.int .i64 t.2.1).wf = true ∧ (Lit.int .i64 t.2.2).wf = true) ∧ len ≤ maxLen := by
  have ce : Try.prog.cellsOf 54 = 3 := by kernel_rfl
  have ci : Try.prog.cellsOf 3 = 1 := by kernel_rfl
  rcases open_slice Try.underlying22 h with ⟨hcs, _⟩ | ⟨ad, l, c, m, n, D, Pl, hcs, _, hl, hm, hmm, _, hx⟩
  · simp at hcs
    obtain ⟨rfl, rfl, rfl⟩ := hcs
    exact ⟨[], rfl, .inl rfl, (fun r hr => by cases hr), Nat.zero_le _⟩
  · simp at hcs
    obtain ⟨rfl, rfl, rfl⟩ := hcs
    have hlm : len ≤ m := by rw [hmm]; split <;> omega
    have each : ∀ i, i < len → ∃ q : Tok, (W.cell? (ad.add (i * 3)) = some (.int .i64 q.1) ∧ W.cell? (ad.add (i * 3 + 1)) = some (.int .i64 q.2.1) ∧ W.cell? (ad.add (i * 3 + 2)) = some (.int .i64 q.2.2)) ∧ (Lit.int .i64 q.1).wf = true ∧ (Lit.int .i64 q.2.1).wf = true ∧ (Lit.int .i64 q.2.2).wf = true := by
      intro i hi
      obtain ⟨cs', h1, h2⟩ := hx i (by omega)
      rw [ce] at h1
      obtain ⟨_, hlen, hcell⟩ := World.cells?_some h1
      obtain ⟨xs, k, hk, hxy, _, hxl, hf⟩ := DataW.trod_struct Try.underlying54 h2
      match xs, hxl, cs', hlen with
      | [y0, y1, y2], _, [v0, v1, v2], _ =>
        have g0 := hf 0 _ rfl
        have g1 := hf 1 _ rfl
        have g2 := hf 2 _ rfl
        simp [ci] at g0 g1 g2
        obtain ⟨x0, e0, _, f0⟩ := DataW.trod_int Try.underlying3 g0
        obtain ⟨x1, e1, _, f1⟩ := DataW.trod_int Try.underlying3 g1
        obtain ⟨x2, e2, _, f2⟩ := DataW.trod_int Try.underlying3 g2
        simp at e0 e1 e2
        have k0 := hcell 0 (by omega)
        have k1 := hcell 1 (by omega)
        have k2 := hcell 2 (by omega)
        rw [add_add] at k0 k1 k2
        refine ⟨(x0, x1, x2), ⟨?_, ?_, ?_⟩, f0, f1, f2⟩
        · simpa [e0] using k0
        · simpa [e1] using k1
        · simpa [e2] using k2
    obtain ⟨q, hq⟩ := choose_lt each
    have hg : ∀ j, j < len → ((List.range len).map q).getD j (0, 0, 0) = q j := by
      intro j hj
      rw [List.getD_eq_getElem?_getD, List.getElem?_map, List.getElem?_range hj]
      rfl
    refine ⟨(List.range len).map q, by simp, ?_, fun r hr => ?_, by omega⟩
    · rcases Nat.eq_zero_or_pos len with h0 | h0
      · exact .inl h0
      · obtain ⟨b, off, spot⟩ := ad
        have h1 := (hq 0 (by omega)).1.1
        have hspot : spot = none := by simpa [Addr.add] using World.cell?_spot h1
        subst hspot
        have hadd : ∀ j, (⟨b, off, none⟩ : Addr).add j = ⟨b, off + j, none⟩ := fun j => Addr.add_lit _ _ _
        refine .inr ⟨b, off, rfl, ?_, fun j hj => ?_⟩
        · rw [hadd] at h1
          exact World.block_lt_of_cell? W _ h1
        · obtain ⟨⟨k0, k1, k2⟩, _⟩ := hq j hj
          rw [hadd] at k0 k1 k2
          rw [← Nat.add_assoc] at k1 k2
          show W.cell? _ = some (.int .i64 (((List.range len).map q).getD j (0, 0, 0)).1) ∧ W.cell? _ = some (.int .i64 (((List.range len).map q).getD j (0, 0, 0)).2.1) ∧ W.cell? _ = some (.int .i64 (((List.range len).map q).getD j (0, 0, 0)).2.2)
          rw [hg j hj]
          exact ⟨k0, k1, k2⟩
    · obtain ⟨i, hi, rfl⟩ := List.mem_map.mp hr
      exact (hq i (List.mem_range.mp hi)).2

end Go.Proofs.Ytbcnlggkoidmmaa
