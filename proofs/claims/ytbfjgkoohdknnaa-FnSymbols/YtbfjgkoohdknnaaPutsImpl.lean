/-
  The walk of the program's PutSymbols where there is a symbol to put.
-/
import Derived.Test.YtbfjgkoohdknnaaRows
import Derived.Test.YtbfjgkoohdknnaaBase
import Derived.Test.YtbfjgkoohdknnaaOutMath
import Derived.Test.YtbfjgkoohdknnaaOutImpl
import Derived.Test.YtbfjgkoohdknnaaPutMath
import Derived.Test.YtbfjgkoohdknnaaPutLib
import Derived.Test.YtbfjgkoohdknnaaCodeMath
import Derived.Test.YtbfjgkoohdknnaaHitMath
import Derived.Test.YtbfjgkoohdknnaaPutsMath
import Derived.Test.YtbfjgkoohdknnaaPutsMore
import Derived.Test.YtbfjgkoohdknnaaPutsPost
import Derived.Test.YtbfjgkoohdknnaaOwnLib
import Derived.Test.YtbfjgkoohdknnaaIntsLib
import Derived.Test.YtbfjgkoohdknnaaWriterWalks
import Derived.Test.YtbfjgkoohdknnaaWriterCode
import Derived.Test.YtbfjgkoohdknnaaHasImpl
import Derived.Test.YtbfjgkoohdknnaaCodesAns
import Derived.Test.YtbfjgkoohdknnaaPutsAns
import Derived.WalkKit
import Derived.ProofKit
import Derived.WalkLawsBesides
import Derived.RegionTactic
import Derived.BigRegion
import Derived.Deep.QuietTactic
import Derived.Deep.RegionWith
import Derived.BigQuiet
import Derived.Lib.SmallJoins
namespace Go.Proofs.Ytbfjgkoohdknnaa
open Go.RowKit Go.Joins OutMath PutMath CodeMath HitMath PutsMath

/-- What PutSymbols starts with. -/
theorem puts_start (w : World) (s : ByteArray) (c : Int) : ((w.alloc (.cells #[.string s, .int .i64 c] 28)).alloc (.cells #[.string ⟨#[]⟩, .int .i64 0] 28)).heap[w.heap.size + 1]? = some (.cells #[.string ⟨#[]⟩, .int .i64 0] 28 (0, 0)) ∧ ((w.alloc (.cells #[.string s, .int .i64 c] 28)).alloc (.cells #[.string ⟨#[]⟩, .int .i64 0] 28)).heap[w.heap.size]? = some (.cells #[.string s, .int .i64 c] 28 (0, 0)) ∧ Below w.heap.size w ((w.alloc (.cells #[.string s, .int .i64 c] 28)).alloc (.cells #[.string ⟨#[]⟩, .int .i64 0] 28)) := by
  refine ⟨?_, ?_, bal (bstart _ _) _⟩
  · show ((w.heap.push _).push _)[w.heap.size + 1]? = _
    rw [Array.getElem?_push, if_pos (by simp)]
  · show ((w.heap.push _).push _)[w.heap.size]? = _
    rw [Array.getElem?_push, if_neg (by simp), Array.getElem?_push, if_pos rfl]

/-- PutSymbols hands back what lies in its second block, and a flag. -/
theorem puts_ret {w W : World} {v0 v1 b : Value} {post : Ending → World → Prop} {ac : Act} (hc : W.heap[w.heap.size + 1]? = some (.cells #[v0, v1] 28 (0, 0))) (h6 : ac.tmps[6]?.getD undef = .pointer (some ⟨w.heap.size + 1, 0, none⟩)) (h7 : ac.tmps[7]?.getD undef = b) (hd : ac.defers = []) (h : post (.returned (.tuple #[.agg #[v0, v1], b])) W) : bodyPost Try.prog Try.f20 post Exit.ret ac W := by
  have c0 : W.cell? ⟨w.heap.size + 1, 0, none⟩ = some v0 := cell_of_block hc 0
  have c1 : W.cell? ⟨w.heap.size + 1, 1, none⟩ = some v1 := cell_of_block hc 1
  exact bodyPost_ret (v := .tuple #[.agg #[v0, v1], b]) (by simp [results, Try.results20, go_sem, h6, h7, c0, c1]) hd h

theorem Wr.same {w w' : World} {base b g L cap : Nat} {xs : List Int} {c : Int} (h : Wr w base b g L cap xs c) (hh : w'.heap = w.heap) : Wr w' base b g L cap xs c := by
  obtain ⟨h1, h2, h3⟩ := h
  exact ⟨by rw [hh]; exact h1, h2.keep (by rw [hh]), h3⟩

/-- What PutSymbols has at hand: its answer's place, and the writer. -/
def PutSt (w w1 w2 w' : World) (b g L cap : Nat) (s : ByteArray) (c : Nat) : Prop :=
  w'.heap[w.heap.size + 1]? = some (.cells #[.string ⟨#[]⟩, .int .i64 0] 28 (0, 0)) ∧ Below w.heap.size w w' ∧ Below w1.heap.size w1 w' ∧ Below w2.heap.size w2 w' ∧ Wr w' w2.heap.size b g L cap (byteL s) (c : Int)

/-- The answer 'no'. -/
theorem puts_no {w W : World} {ac : Act} {f : Nat → Int} {n : Nat} {L : Nat → Int} {m : Nat} {s : ByteArray} {c : Int} (hr : W.heap[w.heap.size + 1]? = some (.cells #[.string ⟨#[]⟩, .int .i64 0] 28 (0, 0))) (hB : Below w.heap.size w W) (hN : ¬ PutsRight f n L m s c)
    (h6 : ac.tmps[6]?.getD undef = .pointer (some ⟨w.heap.size + 1, 0, none⟩)) (h7 : ac.tmps[7]?.getD undef = .bool false) (hd : ac.defers = []) :
    bodyPost Try.prog Try.f20 (PutsPost f n L m s c w) Exit.ret ac ((W.setCell ⟨w.heap.size + 1, 0, none⟩ (.string ⟨#[]⟩)).setCell ⟨w.heap.size + 1, 1, none⟩ (.int .i64 0)) :=
  puts_ret (w := w) (two_set hr _ _) h6 h7 hd (PutsPost.no hN (two_below hB (Nat.le_succ _) _ _))

set_option maxHeartbeats 1600000 in
theorem puts_some_of (hA : CodesAnswer) : PutsSome := by
  intro a1 a2 n m c1 c2 f L s c w hm0 h1 h2 hn hm hf hL hs hc1 hc2
  have HF : Hid (Came w a1 n f) := h1
  have HL : Hid (Came w a2 m L) := h2
  have HW : Hid (∀ i, i < n → (Lit.int .i64 (f i)).wf = true) := hf
  have HA : Hid CodesAnswer := hA
  clear h1 h2 hf hA hL
  obtain ⟨hr0, hq0, hb0⟩ := puts_start w s c
  have H0 : Hid _ := hid_of hr0
  have HQ0 : Hid _ := hid_of hq0
  have HB0 : Hid _ := hid_of hb0
  clear hr0 hq0 hb0
  by_cases hG : Coded f n
  · have HG : Hid (Coded f n) := hG
    clear hG
    go_enter Try.func20, Try.ntmps20
    go_wp2_with fail
    refine ((HA.out a1 n c1 f _ (HF.out.called HB0.out) hn HW.out).1 HG.out).mono ?_
    rintro e w1 ⟨a', cap', rfl, hS1, hb1⟩
    have HC : Hid (Came w1 a' n (codeOf f n)) := hS1.came
    have hr1 := (hb1.block (w.heap.size + 1) (by simp)).trans H0.out
    have hq1 := (hb1.block w.heap.size (by simp; omega)).trans HQ0.out
    have HR1 : Hid (w1.heap[w.heap.size + 1]? = some (.cells #[.string ⟨#[]⟩, .int .i64 0] 28 (0, 0)) ∧ Below w.heap.size w w1) := ⟨hr1, bnext HB0.out hb1⟩
    have b0 : w1.cell? ⟨w.heap.size, 0, none⟩ = some (.string s) := cell_of_block hq1 0
    have b1 : w1.cell? ⟨w.heap.size, 1, none⟩ = some (.int .i64 c) := cell_of_block hq1 1
    have hl1 := block_lt hr1
    have HQ1 : Hid _ := hid_of hq1
    clear hS1 hb1 hr1 hq1
    have dm : decide ((0 : Int) < (m : Int)) = true := by simpa using hm0
    go_wp2_with fail
    refine (implOut_any s c w1 (by unfold maxLen; omega) hc1 hc2).mono ?_
    rintro e w2 ⟨rfl, hb2⟩
    have hr2 := (hb2.block _ hl1).trans HR1.out.1
    have HR2 : Hid (w2.heap[w.heap.size + 1]? = some (.cells #[.string ⟨#[]⟩, .int .i64 0] 28 (0, 0)) ∧ Below w.heap.size w w2) := ⟨hr2, bnext HR1.out.2 hb2⟩
    have hq2 := (hb2.block w.heap.size (by omega)).trans HQ1.out
    have hl2 := block_lt hr2
    have HB2 : Hid (Below w1.heap.size w1 w2) := hb2
    clear b0 b1 hb2
    have b0 : w2.cell? ⟨w.heap.size, 0, none⟩ = some (.string s) := cell_of_block hq2 0
    have b1 : w2.cell? ⟨w.heap.size, 1, none⟩ = some (.int .i64 c) := cell_of_block hq2 1
    cases ho : outB s c with
    | false =>
      have HN : Hid (¬ PutsRight f n L m s c) := fun h => by have := h.2.1; rw [ho] at this; cases this
      have r0 : w2.cell? ⟨w.heap.size + 1, 0, none⟩ = some (.string ⟨#[]⟩) := cell_of_block hr2 0
      have r1 : w2.cell? ⟨w.heap.size + 1, 1, none⟩ = some (.int .i64 0) := cell_of_block hr2 1
      have rf : ∀ i, w2.frozen? ⟨w.heap.size + 1, i, none⟩ = false := fun i => unfrozen_of_block hr2 i
      clear hr2 hq2 ho
      go_wp2_with fail
      exact puts_no HR2.out.1 HR2.out.2 HN.out rfl rfl rfl
    | true =>
      have HOK : Hid (outB s c = true) := ho
      obtain ⟨q1, q2, q3, _⟩ := fits_of_outB s c ho
      obtain ⟨d, rfl⟩ := Int.eq_ofNat_of_zero_le q2
      clear hr2 hq2 ho
      go_wp2_with fail
      refine (newWriter s d w2 q1).mono ?_
      rintro e w3 ⟨b, g0, cap0, rfl, hW3, hb3⟩
      have H3 : Hid (PutSt w w1 w2 w3 b g0 s.size cap0 (ps f n L s d 0).1 (ps f n L s d 0).2) := ⟨(hb3.block _ hl2).trans HR2.out.1, bnext HR2.out.2 hb3, bnext HB2.out hb3, hb3, hW3⟩
      have hbb : w2.heap.size ≤ b := hW3.2.2.2
      have s12 := HB2.out.size
      clear hW3 hb3 b0 b1
      go_wp2_with fail
      go_loopw [34] (fun z w' => ∃ j g l cap : Nat, j ≤ m ∧ z = .int .i64 j ∧ Hid (∀ i, i < j → SymOk f n L s d i) ∧ Hid (PutSt w w1 w2 w' b g l cap (ps f n L s d j).1 (ps f n L s d j).2)) (fun z _ => m - (intOf z).toNat)
      case atStart => exact ⟨0, g0, s.size, cap0, by omega, rfl, fun i hi => absurd hi (Nat.not_lt_zero i), H3⟩
      case round =>
        clear H3
        obtain ⟨j, g, l, cap, hj, rfl, hok, hS⟩ := hrel
        by_cases hlt : j < m
        · rcases HL.out with h0 | ⟨gl, ol, rfl, hgl, hcl⟩
          · omega
          · have kl : wr.cell? ⟨gl, ol + j, none⟩ = some (.int .i64 (L j)) := (hS.out.2.1.cell (p := ⟨gl, ol + j, none⟩) hgl).trans (hcl j hlt)
            have ll : gl < wr.heap.size := Nat.lt_of_lt_of_le hgl hS.out.2.1.size
            have HF1 : Hid (Came wr a1 n f) := HF.out.called hS.out.2.1
            have r0 : wr.cell? ⟨w.heap.size + 1, 0, none⟩ = some (.string ⟨#[]⟩) := cell_of_block hS.out.1 0
            have r1 : wr.cell? ⟨w.heap.size + 1, 1, none⟩ = some (.int .i64 0) := cell_of_block hS.out.1 1
            have rf : ∀ i, wr.frozen? ⟨w.heap.size + 1, i, none⟩ = false := fun i => unfrozen_of_block hS.out.1 i
            clear hcl
            by_cases hh : 0 ≤ L j ∧ L j < n ∧ 0 < f (L j).toNat
            · obtain ⟨p0, p1, p2'⟩ := hh
              obtain ⟨x, hxe⟩ := Int.eq_ofNat_of_zero_le p0
              have hxn : x < n := by omega
              have ex : (L j).toNat = x := by omega
              have hok15 := HG.out.2.1 x hxn
              obtain ⟨k, hke⟩ := Int.eq_ofNat_of_zero_le hok15.1
              have hk1 : 1 ≤ k := by rw [ex] at p2'; omega
              have hk15 : k ≤ 15 := by omega
              have hcode := code_lt HG.out hxn
              have hc24 : codeOf f n x ≤ 16777216 := by
                have h1 := p2_le (show (f x).toNat ≤ 24 by omega)
                have h2 : p2 24 = 16777216 := by decide +kernel
                omega
              have hcode0 := hcode.1
              rcases HF.out with h0 | ⟨g1, o1, rfl, hg1, hcf⟩
              · omega
              · rcases HC.out with h0 | ⟨g2, o2, rfl, hg2, hcc⟩
                · omega
                · have k1 : wr.cell? ⟨g1, o1 + x, none⟩ = some (.int .i64 (k : Int)) := by
                    rw [hS.out.2.1.cell (p := ⟨g1, o1 + x, none⟩) hg1, hcf x hxn, hke]
                  have k2 : wr.cell? ⟨g2, o2 + x, none⟩ = some (.int .i64 (codeOf f n x)) := (hS.out.2.2.1.cell (p := ⟨g2, o2 + x, none⟩) hg2).trans (hcc x hxn)
                  have l1 : g1 < wr.heap.size := Nat.lt_of_lt_of_le hg1 hS.out.2.1.size
                  have l2 : g2 < wr.heap.size := Nat.lt_of_lt_of_le hg2 hS.out.2.2.1.size
                  have cb := hS.out.2.2.2.2.c1
                  have lb := hS.out.2.2.2.2.lt
                  have hpb := (ps_bd (f := f) (n := n) (L := L) HOK.out j hok.out).2
                  have HPO : Hid (outB (ps f n L s d j).1 ((ps f n L s d j).2 : Nat) = true) := ps_out HOK.out j hok.out
                  have HKE : Hid (f x = (k : Int)) := hke
                  have HXE : Hid (L j = (x : Int)) := hxe
                  rw [hxe] at kl
                  have hfp : Hid (0 < f x) := by show 0 < f x; omega
                  clear hcf hcc hke hxe ex p0 p1 p2' hok15 hcode
                  by_cases hcap : (ps f n L s d j).2 + k ≤ 96000
                  · have HSY : Hid (SymOk f n L s d j) := by
                      have e1 : (L j).toNat = x := by rw [HXE.out]; simp
                      refine ⟨by rw [HXE.out]; omega, by rw [HXE.out]; omega, by rw [e1, HKE.out]; omega, ?_⟩
                      rw [e1, HKE.out]
                      refine ⟨HPO.out, by omega, by omega, hcode0, ?_, by omega⟩
                      have := (code_lt HG.out hxn).2
                      rw [HKE.out] at this
                      exact this
                    have HOK1 : Hid (∀ i, i < j + 1 → SymOk f n L s d i) := fun i hi => by
                      by_cases e : i = j
                      · rw [e]; exact HSY.out
                      · exact hok.out i (by omega)
                    have HBY : Hid (byteL (ps f n L s d (j + 1)).1 = puts (byteL (ps f n L s d j).1) (ps f n L s d j).2 (fun i => bitOf (codeOf f n x) (k - 1 - i)) k) := by
                      have h := ps_bytes j HSY.out
                      have e1 : (L j).toNat = x := by rw [HXE.out]; simp
                      rw [e1, HKE.out, Int.toNat_natCast] at h
                      exact h
                    have HC2 : Hid ((ps f n L s d (j + 1)).2 = (ps f n L s d j).2 + k) := by
                      show (ps f n L s d j).2 + (f (L j).toNat).toNat = _
                      have e1 : (L j).toNat = x := by rw [HXE.out]; simp
                      rw [e1, HKE.out, Int.toNat_natCast]
                    have HIV : Hid (Inv (byteL (ps f n L s d j).1) (ps f n L s d j).2) := bytes_inv _ _ HPO.out
                    generalize hpC : (ps f n L s d j).2 = C at cb hpb hcap HBY HC2 HIV hS
                    clear hpC
                    have dc : decide ((96000 : Int) < (C : Int) + (k : Int)) = false := by simp; omega
                    go_wp2_with fail
                    go_quiet ((go_at_call 48; exact Calls.quiet_of_same (has_yes _ n c1 f x _ HF1.out hxn hfp.out)))
                    go_wp2_with fail
                    have sw2 : w.heap.size ≤ w2.heap.size := by omega
                    go_region_with (go_at_call 41; refine (putCode_any (codeOf f n x) k b g l cap _ C w2.heap.size _ (by exact Wr.same hS.out.2.2.2.2 rfl) HIV.out hcode0 hc24 (by omega) hcap).mono ?_; rintro e w4 ⟨g', l', cap4, rfl, hW4, hb4⟩)
                    all_goals
                      have hb5 : Below w2.heap.size wr w4 := (below_draws _ _ _).trans hb4
                      have HS4 : Hid (PutSt w w1 w2 w4 b g' l' cap4 (ps f n L s d (j + 1)).1 (ps f n L s d (j + 1)).2) := by
                        refine ⟨(hb5.block _ hl2).trans hS.out.1, hS.out.2.1.trans (hb5.mono sw2), hS.out.2.2.1.trans (hb5.mono s12), hS.out.2.2.2.1.trans hb5, ?_⟩
                        rw [HBY.out, HC2.out]
                        exact hW4
                      clear hb4 hb5 hW4
                      go_wp2_with fail
                      go_roundw
                      case rel => exact ⟨j + 1, g', l', cap4, by omega, by go_num, HOK1, HS4⟩
                      case measure => simp [intOf]; omega
                  · have HN : Hid (¬ PutsRight f n L m s d) := fun h => by
                      obtain ⟨_, _, _, hM⟩ := h.2.2 j hlt
                      have hM6 := hM.2.2.2.2.2
                      have e1 : (L j).toNat = x := by rw [HXE.out]; simp
                      rw [e1, HKE.out, Int.toNat_natCast] at hM6
                      omega
                    generalize hpC : (ps f n L s d j).2 = C at cb hpb hcap hS
                    clear hpC HPO
                    have dc : decide ((96000 : Int) < (C : Int) + (k : Int)) = true := by simp; omega
                    go_wp2_with fail
                    go_quiet ((go_at_call 48; exact Calls.quiet_of_same (has_yes _ n c1 f x _ HF1.out hxn hfp.out)))
                    go_wp2_with fail
                    exact puts_no (W := wr.drewN _) hS.out.1 (bdraws hS.out.2.1 _) HN.out rfl rfl rfl
            · have HH : Hid (¬ (0 ≤ L j ∧ L j < n ∧ 0 < f (L j).toNat)) := hh
              have HN : Hid (¬ PutsRight f n L m s d) := fun h => by
                obtain ⟨p1, p2, p3, _⟩ := h.2.2 j hlt
                have p4 := HG.out.2.1 (L j).toNat (by omega)
                have p3' : f (L j).toNat ≠ 0 := p3
                exact HH.out ⟨p1, by omega, by omega⟩
              clear hh
              go_wp2_with fail
              go_quiet ((go_at_call 48; exact Calls.quiet_of_same (has_no a1 n c1 f _ _ HF1.out HH.out)))
              go_wp2_with fail
              exact puts_no (W := wr.drewN _) hS.out.1 (bdraws hS.out.2.1 _) HN.out rfl rfl rfl
        · obtain rfl : j = m := by omega
          have HP : Hid (PutsRight f n L j s d) := ⟨HG.out, HOK.out, hok.out⟩
          have hl := block_lt hS.out.1
          go_wp2_with fail
          refine (writerOut b g l cap _ _ w2.heap.size _ hS.out.2.2.2.2).mono ?_
          rintro e w5 ⟨rfl, hb5⟩
          have hr5 := (hb5.block _ hl).trans hS.out.1
          have hB5 := bnext hS.out.2.1 hb5
          have r0 : w5.cell? ⟨w.heap.size + 1, 0, none⟩ = some (.string ⟨#[]⟩) := cell_of_block hr5 0
          have r1 : w5.cell? ⟨w.heap.size + 1, 1, none⟩ = some (.int .i64 0) := cell_of_block hr5 1
          have rf : ∀ i, w5.frozen? ⟨w.heap.size + 1, i, none⟩ = false := fun i => unfrozen_of_block hr5 i
          have HR5 : Hid _ := hid_of hr5
          clear hr5 hb5
          rw [strOfNums_bytes]
          go_wp2_with fail
          exact puts_ret (w := w) (two_set HR5.out _ _) rfl rfl rfl (PutsPost.yes HP.out (two_below hB5 (Nat.le_succ _) _ _))
  · have HN : Hid (¬ PutsRight f n L m s c) := fun h => hG h.1
    have HG : Hid (¬ Coded f n) := hG
    clear hG
    go_enter Try.func20, Try.ntmps20
    go_wp2_with fail
    refine ((HA.out a1 n c1 f _ (HF.out.called HB0.out) hn HW.out).2 HG.out).mono ?_
    rintro e w1 ⟨a', cap', rfl, hb1⟩
    have hr1 := (hb1.block (w.heap.size + 1) (by simp)).trans H0.out
    have HR1 : Hid (w1.heap[w.heap.size + 1]? = some (.cells #[.string ⟨#[]⟩, .int .i64 0] 28 (0, 0)) ∧ Below w.heap.size w w1) := ⟨hr1, bnext HB0.out hb1⟩
    have c0 : w1.cell? ⟨w.heap.size + 1, 0, none⟩ = some (.string ⟨#[]⟩) := cell_of_block hr1 0
    have c1 : w1.cell? ⟨w.heap.size + 1, 1, none⟩ = some (.int .i64 0) := cell_of_block hr1 1
    have cf : ∀ i, w1.frozen? ⟨w.heap.size + 1, i, none⟩ = false := fun i => unfrozen_of_block hr1 i
    clear hb1 hr1
    go_wp2_with fail
    exact puts_no HR1.out.1 HR1.out.2 HN.out rfl rfl rfl

end Go.Proofs.Ytbfjgkoohdknnaa
