/-
  The walk of the program's FixedBlock.
  How often each symbol is told. Nothing here speaks of the program.
  The walk of the program's tellSymbols over the two functions that it is handed (count).
  What the program's LimitedLengths is to answer.
-/
import Derived.Test.YtbcnlggkoidmmaaGreatDoorRows
import Derived.Test.YtbcnlggkoidmmaaGreatDoorQk01
import Derived.Test.YtbcnlggkoidmmaaGreatDoorQk04
import Derived.Test.YtbcnlggkoidmmaaGreatDoorQk06
import Derived.Test.YtbcnlggkoidmmaaGreatDoorQk02
import Derived.Test.YtbcnlggkoidmmaaGreatDoorQk07
import Derived.Test.YtbcnlggkoidmmaaGreatDoorQk32
import Derived.Test.YtbcnlggkoidmmaaGreatDoorQk05
import Derived.Test.YtbcnlggkoidmmaaGreatDoorQk11
import Derived.Test.YtbcnlggkoidmmaaGreatDoorQk12
import Derived.Test.YtbcnlggkoidmmaaGreatDoorQk34
import Derived.Test.YtbcnlggkoidmmaaGreatDoorQk35
import Derived.Test.YtbcnlggkoidmmaaGreatDoorQk27
import Derived.Test.YtbcnlggkoidmmaaGreatDoorQk16
import Derived.Test.YtbcnlggkoidmmaaGreatDoorQk33
import Derived.Test.YtbcnlggkoidmmaaGreatDoorQk15
import Derived.Test.YtbcnlggkoidmmaaGreatDoorQk10
import Derived.WalkKit
import Derived.ProofKit
import Derived.WalkLawsBesides
import Derived.RegionTactic
import Derived.Deep.RegionWith
import Derived.Deep.RegionHeldLaw
import Derived.Deep.RegionHeld3
import Derived.Deep.AppendLies
import Derived.Below
import Derived.OwnWalk
import Derived.Maps.AppendAt
import Derived.Lib.SmallJoins
import Derived.Deep.LoopGhost
namespace Go.Proofs.YtbcnlggkoidmmaaGreatDoor
open Go.RowKit Go.Joins OutMath InfMath TokMath TrimMath TellMath BlockMath PartMath BodyMath

theorem came_fixed {w : World} {S : Nat} {a : Option Addr} {n c : Nat} {f : Nat → Int} (h : NumRow w S (.slice a n c) (firstJ f n)) : Came w a n f := by
  rcases sl_of_num h (firstJ_length f n).symm with q | ⟨g, e, ho⟩
  · exact .inl q
  · subst e
    exact (ho.congr fun i hi => firstJ_getD f hi).sl.came
theorem PCame.low {w w' : World} {a : Option Addr} {L : List Part} {row : Option Nat} (h : PCame w a L) (hg : w.grownBy w' row) (hr : ∀ k, row = some k → w.heap.size ≤ k) : PCame w' a L := by
  rcases h with h | ⟨g, off, ha, hl, hc⟩
  · exact .inl h
  · have hne : ∀ i, some (⟨g, i, none⟩ : Addr).block ≠ row := fun i e => by have := hr g e.symm; omega
    exact .inr ⟨g, off, ha, Nat.lt_of_lt_of_le hl hg.size, fun j hj => ⟨(hg.cell_far ⟨g, off + j * 3, none⟩ hl (hne _)).trans (hc j hj).1, (hg.cell_far ⟨g, off + j * 3 + 1, none⟩ hl (hne _)).trans (hc j hj).2.1, (hg.cell_far ⟨g, off + j * 3 + 2, none⟩ hl (hne _)).trans (hc j hj).2.2⟩⟩

theorem own_came {w : World} {e : TypeId} {S N g cap : Nat} {P : List Part} (h : w.ownsRow S e 3 (.slice (some ⟨g, 0, none⟩) N cap) N (pcells P)) (hN : P.length = N) : PCame w (some ⟨g, 0, none⟩) P := by
  subst hN
  obtain ⟨a, c, hv, _, _, _, hp, _⟩ := pcame_of_own h rfl
  cases hv
  exact hp

set_option maxRecDepth 100000 in
set_option maxHeartbeats 3200000 in
theorem fixed_in (s : ByteArray) (c : Int) (a : Option Addr) (cp : Nat) (L : List Tok) (last : Bool) (w : World) (hs : s.size ≤ 1048576) (hc1 : -9223372036854775808 ≤ c) (hc2 : c ≤ 9223372036854775807) (hC : TCame w a L.length (fun j => L.getD j (0, 0, 0))) (hL : L.length ≤ 12000) :
    Calls Tryz.prog 11 #[.agg #[.string s, .int .i64 c], .slice a L.length cp, .bool last] w fun e w' => e = .returned (blkAns (fixedOut s c L last)) ∧ Below w.heap.size w w' := by
  have d : decide ((12000 : Int) < (L.length : Int)) = false := decide_eq_false (by omega)
  have d' : decide (12000 < L.length) = false := decide_eq_false (by omega)
  have HX := hid_of (SBx.start w s c)
  have HC := hid_of hC
  clear hC
  go_enter Tryz.func11, Tryz.ntmps11
  go_wp2_with fail
  generalize (w.alloc _).alloc _ = X at HX ⊢
  refine (implFixed X).mono ?_
  rintro e w1 ⟨a1, k1, a2, k2, K, rfl, r1, r2, _, b1, _⟩
  have HX1 := hid_of (HX.out.called b1)
  have HF := hid_of (And.intro (came_fixed r1) (came_fixed r2))
  clear r1 r2 b1 HX
  go_wp2_with fail
  refine (tokenParts_any a a1 a2 cp k1 k2 fixed1 fixed2 288 32 L w1 (HC.out.called HX1.out.1) HF.out.1 HF.out.2 hL (fixed_body (fun t ht => by cases ht)) (fun t _ hT => fixed_body (fun u hu => by rw [List.mem_singleton.mp hu]; exact hT))).mono ?_
  rintro e w2 ⟨hy, hno, hB2⟩
  have HX2 := hid_of (HX1.out.called hB2)
  clear hB2 HX1 HF HC
  by_cases hall : ∀ t ∈ L, TokRight t
  · obtain ⟨v, rfl, hown⟩ := hy hall
    clear hy hno
    have e1 : fixedOut s c L last = (outSt s c).bind fun o => bitsOut o (partBits (headP 1 last :: symsP fixed1 288 fixed2 32 (symsL L ++ [(false, (256, 0, 0))]))) := by
      unfold fixedOut
      rw [if_pos ⟨hL, hall⟩]
      congr 1
      funext o
      rw [partBits_cons, headP_bits (by omega), progP_bits]
    have hR : ∀ p ∈ headP 1 last :: symsP fixed1 288 fixed2 32 (symsL L ++ [(false, (256, 0, 0))]), Right p := by
      intro p hp
      rcases List.mem_cons.mp hp with rfl | hp
      · exact headP_right (by omega) last
      · exact (fixed_body hall).progR p hp
    have hlen : (symsP fixed1 288 fixed2 32 (symsL L ++ [(false, (256, 0, 0))])).length ≤ 100000 ∧ 0 < (symsP fixed1 288 fixed2 32 (symsL L ++ [(false, (256, 0, 0))])).length := by
      rw [symsP_length, List.length_append, List.length_singleton]
      have := symsL_length L
      omega
    obtain ⟨P, hP⟩ : ∃ P, P = symsP fixed1 288 fixed2 32 (symsL L ++ [(false, (256, 0, 0))]) := ⟨_, rfl⟩
    rw [← hP] at e1 hR hlen hown
    obtain ⟨a3, k3, rfl, _, _, _, hPC, _⟩ := pcame_of_own hown rfl
    obtain ⟨g3, o3, rfl⟩ : ∃ g3 o3, a3 = some ⟨g3, o3, none⟩ := by
      rcases hPC with q | ⟨g, off, e, _⟩
      · omega
      · exact ⟨g, off, e⟩
    obtain ⟨N, hN⟩ : ∃ N, N = P.length := ⟨_, rfl⟩
    have HPC := hid_of hPC
    have HR := hid_of hR
    have HE1 := hid_of e1
    have HN := hid_of hN
    have hNl : N ≤ 100000 ∧ 0 < N := by rw [hN]; exact hlen
    rw [← hN]
    clear hP hPC hR e1 hlen hown hN
    obtain ⟨x0, x1, xl⟩ := HX2.out.cells
    obtain ⟨tt, nn, bb, he⟩ := blkAns_form ((outSt s c).bind fun o => bitsOut o (partBits (headP 1 last :: P)))
    have HWP : Hid (∀ (W : World) (g' cap' : Nat), PCame W (some ⟨g', 0, none⟩) (headP 1 last :: P) → Calls Tryz.prog 33 #[.agg #[.string s, .int .i64 c], .slice (some ⟨g', 0, none⟩) (N + 1) cap'] W fun e w' => e = .returned (.tuple #[.agg #[.string tt, .int .i64 nn], .bool bb]) ∧ Below W.heap.size W w') := by
      intro W g' cap' hp
      have h := withParts_any s c (some ⟨g', 0, none⟩) cap' (headP 1 last :: P) W hp HR.out (by rw [List.length_cons, ← HN.out]; omega) (by unfold maxLen; omega) hc1 hc2
      rw [he, List.length_cons, ← HN.out] at h
      exact h
    have HE2 : Hid (fixedOut s c L last = fixedOut s c L last ∧ blkAns (fixedOut s c L last) = .tuple #[.agg #[.string tt, .int .i64 nn], .bool bb]) := ⟨rfl, by rw [HE1.out, he]⟩
    have HLN : Hid ((headP 1 last :: P).length = N + 1) := by rw [List.length_cons, ← HN.out]; rfl
    clear he HE1
    go_wp2_with fail
    go_region_held_law (fun u => u.cell? ⟨w.heap.size, 0, none⟩ = some (.string s) ∧ u.cell? ⟨w.heap.size, 1, none⟩ = some (.int .i64 c)) (first | go_keep | (refine ⟨?_, ?_⟩ <;> first | assumption | go_keep | (simp [*]; done))) (first | (refine step_parts Tryz.underlying63 info_part9 _ rfl (.tmp 33) (.tmp 34) rfl (w.heap.size + 2) (.slice (some ⟨w'.heap.size, 0, none⟩) 1 1) [headP 1 last] P (by simp [Act.eval]) (by exact own_lit w' 60 (w.heap.size + 2) hwl [headP 1 last] (by simp)) ⟨g3, o3, none⟩ N k3 (by simp [Act.eval]) HN.out.symm hNl.2 (by exact (HPW.out.called (bstart w' _)).news) (by rw [← HN.out]; simp only [List.length_singleton]; omega) (by exact Nat.le_trans hwl (by simp)) _ rfl (N + 1) (by rw [List.length_append, ← HN.out, List.length_singleton]; omega) ?_; intro g' cap' w3 r1 r2 r3 r4; have HX3 := hid_of ((HXW.out.called (by first | exact bstart w' _ | exact (bstart w' _).drew)).grown r2 hwl); have hc3 := HX3.out.cells; have q0 := hc3.1; have q1 := hc3.2.1; have HP3 : Hid (PCame w3 (some ⟨g', 0, none⟩) (headP 1 last :: P)) := hid_of (own_came r1 HLN.out); clear hc3 r1 r2 r3 r4) | (go_at_call 31; refine (headPart_any 1 last _ (by omega)).mono ?_; rintro e w' ⟨rfl, hB⟩; have HXW := hid_of (SBx.called (X := w2.drew) (by exact HX2.out.drew) hB); have HPW := hid_of (PCame.called (w := w2.drew) (by exact HPC.out) hB); have hcw := HXW.out.cells; have x0' := hcw.1; have x1' := hcw.2.1; have hwl : w.heap.size + 2 ≤ w'.heap.size := HXW.out.res.2.2.2; clear hB hcw) | (go_at_call 33; refine (HWP.out _ _ _ HP3.out).mono ?_; rintro e w4 ⟨rfl, hB4⟩; have HX4 := hid_of (HX3.out.called hB4); have hc4 := HX4.out.cells; have v0 := hc4.1; have v1 := hc4.2.1; have hr4 := HX4.out.res; have z0 := hr4.1; have z1 := hr4.2.1; have zf := hr4.2.2.1; have zl := hr4.2.2.2; clear hB4 hc4 hr4))
    all_goals
      go_wp2_with fail
      refine bodyPost_ret (v := .tuple #[.agg #[.string tt, .int .i64 nn], .bool bb]) ?_ rfl ⟨by rw [HE2.out.2], ?_⟩
      · simp [results, Tryz.results11, go_sem, z0, z1]
      · exact two_below HX4.out.1 (Nat.le_succ _) _ _
  · obtain ⟨v, rfl⟩ := hno hall
    clear hy hno
    have e1 : fixedOut s c L last = none := if_neg (fun h => hall h.2)
    obtain ⟨z0, z1, zf, zl⟩ := HX2.out.res
    go_wp2_with fail
    refine bodyPost_ret (v := .tuple #[.agg #[.string ⟨#[]⟩, .int .i64 0], .bool false]) ?_ rfl ⟨by rw [e1]; rfl, two_below HX2.out.1 (Nat.le_succ _) _ _⟩
    simp [results, Tryz.results11, go_sem, z0, z1]

set_option maxHeartbeats 800000 in
theorem fixed_answer : FixedAnswer := by
  intro s c a cp L last w hs hc1 hc2 hC _
  by_cases hL : L.length ≤ 12000
  · exact fixed_in s c a cp L last w hs hc1 hc2 hC hL
  · have d : decide ((12000 : Int) < (L.length : Int)) = true := decide_eq_true (by omega)
    have d' : decide (12000 < L.length) = true := decide_eq_true (by omega)
    have e1 : fixedOut s c L last = none := if_neg (fun h => hL h.1)
    rw [e1]
    have HX := hid_of (SBx.start w s c)
    clear hC
    go_enter Tryz.func11, Tryz.ntmps11
    go_wp2_with fail
    generalize (w.alloc _).alloc _ = X at HX ⊢
    obtain ⟨z0, z1, zf, zl⟩ := HX.out.res
    refine bodyPost_ret (v := .tuple #[.agg #[.string ⟨#[]⟩, .int .i64 0], .bool false]) ?_ rfl ⟨rfl, HX.out.1⟩
    simp [results, Tryz.results11, go_sem, z0, z1]
end Go.Proofs.YtbcnlggkoidmmaaGreatDoor

namespace Go.Proofs.YtbcnlggkoidmmaaGreatDoor
namespace CntMath
open TokMath StepMath TokLenMath TellMath

/-- How often a symbol of the first code (or the second) is told. -/
def cnt (b : Bool) (S : List (Bool × Cod)) (i : Nat) : Int := ((S.filter fun x => decide (x.1 = b ∧ x.2.1.toNat = i)).length : Int)
theorem cnt_le (b : Bool) (S : List (Bool × Cod)) (i : Nat) : 0 ≤ cnt b S i ∧ cnt b S i ≤ S.length := by
  unfold cnt
  have := List.length_filter_le (fun x : Bool × Cod => decide (x.1 = b ∧ x.2.1.toNat = i)) S
  omega
theorem cnt_app (b : Bool) (S R : List (Bool × Cod)) (i : Nat) : cnt b (S ++ R) i = cnt b S i + cnt b R i := by
  unfold cnt
  rw [List.filter_append, List.length_append]
  omega
theorem cnt_one (b : Bool) (s : Cod) (i : Nat) : cnt b [(b, s)] i = if i = s.1.toNat then 1 else 0 := by
  unfold cnt
  by_cases h : i = s.1.toNat
  · subst h
    simp
  · have h' : ¬ s.1.toNat = i := fun e => h e.symm
    simp [h, h']
theorem cnt_none (b : Bool) (s : Cod) (i : Nat) : cnt b [(!b, s)] i = 0 := by
  unfold cnt
  cases b <;> simp
theorem cnt_snoc (S : List (Bool × Cod)) (b : Bool) (s : Cod) (i : Nat) : upd (cnt b S) s.1.toNat (cnt b S s.1.toNat + 1) i = cnt b (S ++ [(b, s)]) i := by
  rw [cnt_app, cnt_one]
  unfold upd
  by_cases h : i = s.1.toNat
  · rw [if_pos h, if_pos h, h]
  · rw [if_neg h, if_neg h]
    omega
theorem cnt_other (S : List (Bool × Cod)) {b : Bool} (s : Cod) (i : Nat) : cnt (!b) S i = cnt (!b) (S ++ [(b, s)]) i := by
  have := cnt_none (!b) s i
  rw [Bool.not_not] at this
  rw [cnt_app, this]
  omega
/-- Of tokens: as the model counts. -/
theorem cnt_first : ∀ (L : List Tok) (i : Nat), (if i = 256 then 1 else 0) + cnt false (symsL L) i = cntA L i
  | [], i => rfl
  | t :: L, i => by
    have ih := cnt_first L i
    have e : symsL (t :: L) = symsT t ++ symsL L := rfl
    rw [e, cnt_app]
    have h1 : cntA (t :: L) i = (if i = sym1 t then 1 else 0) + cntA L i := by
      unfold cntA
      rw [List.filter_cons]
      by_cases h : i = sym1 t
      · rw [if_pos h, if_pos (decide_eq_true h.symm), List.length_cons]
        omega
      · have h' : ¬ decide (sym1 t = i) = true := by simpa using fun e : sym1 t = i => h e.symm
        rw [if_neg h, if_neg h']
        omega
    have h2 : cnt false (symsT t) i = if i = sym1 t then 1 else 0 := by
      obtain ⟨x, y, z⟩ := t
      by_cases hy : y = 0
      · subst hy
        rw [symsT_byte, sym1_byte, cnt_one]
      · rw [symsT_rep _ _ hy, sym1_rep hy, show [(false, LengthCodeOf y), (true, DistCodeOf z)] = [(false, LengthCodeOf y)] ++ [(!false, DistCodeOf z)] from rfl, cnt_app, cnt_one, cnt_none]
        omega
    rw [h1, h2, ← ih]
    omega
theorem cnt_second : ∀ (L : List Tok) (i : Nat), cnt true (symsL L) i = cntB L i
  | [], i => rfl
  | t :: L, i => by
    have ih := cnt_second L i
    have e : symsL (t :: L) = symsT t ++ symsL L := rfl
    rw [e, cnt_app, ih]
    obtain ⟨x, y, z⟩ := t
    unfold cntB
    rw [List.filter_cons]
    by_cases hy : y = 0
    · subst hy
      rw [symsT_byte, show cnt true [(false, (x, 0, 0))] i = 0 from cnt_none true _ i, if_neg (by simp)]
      omega
    · rw [symsT_rep _ _ hy, show [(false, LengthCodeOf y), (true, DistCodeOf z)] = [(!true, LengthCodeOf y)] ++ [(true, DistCodeOf z)] from rfl, cnt_app, cnt_one, cnt_none]
      by_cases h : i = (DistCodeOf z).1.toNat
      · rw [if_pos h, if_pos (decide_eq_true ⟨hy, h.symm⟩), List.length_cons]
        omega
      · have h' : ¬ decide ((x, y, z).2.1 ≠ 0 ∧ sym2 (x, y, z) = i) = true := by
          rw [decide_eq_true_eq]
          exact fun e => h e.2.symm
        rw [if_neg h, if_neg h']
        omega
end CntMath
end Go.Proofs.YtbcnlggkoidmmaaGreatDoor

namespace Go.Proofs.YtbcnlggkoidmmaaGreatDoor
open Go.RowKit Go.Joins TokMath StepMath TellMath

set_option maxRecDepth 100000 in
set_option maxHeartbeats 3200000 in
theorem tell_count (p1 p2 : Nat) (Gd : Bool → Cod → Prop) (I : World → List (Bool × Cod) → Prop) (T : World → Nat → Prop) (w0 w : World) (a : Option Addr) (c : Nat) (L : List Tok)
    (hC : TCame w0 a L.length (fun j => L.getD j (0, 0, 0))) (hL : L.length ≤ 12000) (hS : Stays w0 I T) 
    (h1 : ∀ (w : World) (S : List (Bool × Cod)) (s : Cod), I w S → Gd false s → S.length ≤ 24001 → Calls Tryz.prog 71 #[codV s, .pointer (some ⟨p1, 0, none⟩)] w fun e w' => e = .returned (.tuple #[]) ∧ I w' (S ++ [(false, s)]) ∧ w.heap.size ≤ w'.heap.size ∧ ∀ g, g < w.heap.size → ¬ T w g → w'.heap[g]? = w.heap[g]?)
    (h2 : ∀ (w : World) (S : List (Bool × Cod)) (s : Cod), I w S → Gd true s → S.length ≤ 24001 → Calls Tryz.prog 72 #[codV s, .pointer (some ⟨p2, 0, none⟩)] w fun e w' => e = .returned (.tuple #[]) ∧ I w' (S ++ [(true, s)]) ∧ w.heap.size ≤ w'.heap.size ∧ ∀ g, g < w.heap.size → ¬ T w g → w'.heap[g]? = w.heap[g]?)
    (hG : ∀ t ∈ L, TokRight t → ∀ x ∈ symsT t, Gd x.1 x.2) (hE : Gd false (256, 0, 0)) (hI : I w []) :
    Calls Tryz.prog 69 #[.slice a L.length c, .func (.func 71) #[] #[.pointer (some ⟨p1, 0, none⟩)], .func (.func 72) #[] #[.pointer (some ⟨p2, 0, none⟩)]] w fun e w' =>
      ((∀ t ∈ L, TokRight t) → e = .returned (.bool true) ∧ I w' (symsL L ++ [(false, (256, 0, 0))])) ∧ (¬ (∀ t ∈ L, TokRight t) → e = .returned (.bool false) ∧ ∃ S, I w' S) := by
  have HC := hid_of hC
  have HS := hid_of hS
  have H1 := hid_of h1
  have H2 := hid_of h2
  have HG := hid_of hG
  have HE := hid_of hE
  have HI := hid_of hI
  clear hC hS h1 h2 hG hE hI
  go_enter Tryz.func69, Tryz.ntmps69
  go_wp2_with fail
  go_loopg [14] (L.length + 1) (fun gk i w' => ∃ (j : Nat), j ≤ L.length ∧ L.length - j ≤ gk ∧ i = .int .i64 j ∧ Hid (I w' (symsL (L.take j)) ∧ ∀ t ∈ L.take j, TokRight t))
  case atStart => exact ⟨0, Nat.zero_le _, by omega, rfl, HI.out, fun t ht => by cases ht⟩
  case round =>
    obtain ⟨j, hj, hgk, rfl, hSt⟩ := hrel
    by_cases hlt : j < L.length
    · have dl : decide ((j : Int) < (L.length : Int)) = true := decide_eq_true (by omega)
      rcases HC.out.called (HS.out.below hSt.out.1) with q | ⟨g, off, rfl, hg, hc⟩
      · omega
      obtain ⟨f0, f1, f2⟩ := hc j hlt
      simp only [] at f0 f1 f2
      have hmem : L.getD j (0, 0, 0) ∈ L := by rw [List.getD_eq_getElem?_getD, List.getElem?_eq_getElem hlt]; exact List.getElem_mem hlt
      have HMEM := hid_of hmem
      have HSN := hid_of (symsL_snoc hlt)
      have HTK := hid_of (show L.take (j + 1) = L.take j ++ [L.getD j (0, 0, 0)] by rw [List.take_add_one, List.getElem?_eq_getElem hlt, List.getD_eq_getElem?_getD, List.getElem?_eq_getElem hlt]; rfl)
      obtain ⟨⟨x, y, z⟩, hr⟩ : ∃ r, r = L.getD j (0, 0, 0) := ⟨_, rfl⟩
      rw [← hr] at f0 f1 f2 HSN HTK HMEM
      clear hc hr hmem
      by_cases hT : TokRight (x, y, z)
      · by_cases hy : y = 0
        · subst hy
          obtain ⟨⟨hx0, hx1⟩, hz⟩ : (0 ≤ x ∧ x ≤ 255) ∧ z = 0 := by unfold TokRight at hT; rw [if_pos rfl] at hT; exact hT
          subst hz
          have t1 := as_literal
          have hp := fun w => pieceOf_any x 0 0 w
          rw [piece_byte hx0 hx1] at hp
          have hw : wrap64 x = x := by unfold wrap64; omega
          go_wp2_with fail
          refine (hp _).mono ?_
          rintro e w1 ⟨rfl, hB1⟩
          go_wp2_with fail
          refine (newCoded_any _ _ _ _).mono ?_
          rintro e w2 ⟨rfl, hB2⟩
          have HI2 := hid_of (HS.out.called hSt.out.1 (bnext (bnext (bstart wr _) hB1) hB2)).1
          have hlen : (symsL (L.take j)).length ≤ 24001 := by have := symsL_length (L.take j); rw [List.length_take] at this; omega
          have hgd : Gd false (x, 0, 0) := HG.out _ HMEM.out hT (false, (x, 0, 0)) (by rw [symsT_byte]; exact List.mem_singleton.mpr rfl)
          clear hB1 hB2
          go_wp2_with fail
          refine (H1.out w2 _ (x, 0, 0) HI2.out hgd hlen).mono ?_
          rintro e w3 ⟨rfl, hI3, _, _⟩
          have HN : Hid (I w3 (symsL (L.take (j + 1))) ∧ ∀ t ∈ L.take (j + 1), TokRight t) := by
            refine ⟨by rw [HSN.out, symsT_byte]; exact hI3, fun t ht => ?_⟩
            rw [HTK.out] at ht
            rcases List.mem_append.mp ht with ht | ht
            · exact hSt.out.2 t ht
            · rw [List.mem_singleton.mp ht]; exact hT
          clear hI3
          go_wp2_with fail
          go_roundg (L.length - (j + 1))
          case measure => omega
          case rel => exact ⟨j + 1, by omega, Nat.le_refl _, by go_num, HN⟩
        · obtain ⟨hx, hy2, hz2⟩ : x = 0 ∧ (3 ≤ y ∧ y ≤ 258) ∧ (1 ≤ z ∧ z ≤ 32768) := by unfold TokRight at hT; rw [if_neg hy] at hT; exact hT
          subst hx
          have t1 := no_literal
          have t2 := as_repeat
          have hp := fun w => pieceOf_any 0 y z w
          rw [piece_repeat hy2 hz2] at hp
          have hl := fun w => lengthCode_answer y w (wf_small y (by omega) (by omega))
          have hd := fun w => distCode_answer z w (wf_small z (by omega) (by omega))
          have hg1 : Gd false (LengthCodeOf y) := HG.out _ HMEM.out hT (false, LengthCodeOf y) (by rw [symsT_rep _ _ hy]; exact List.mem_cons_self ..)
          have hg2 : Gd true (DistCodeOf z) := HG.out _ HMEM.out hT (true, DistCodeOf z) (by rw [symsT_rep _ _ hy]; exact List.mem_cons_of_mem _ (List.mem_cons_self ..))
          have hsn : symsL (L.take (j + 1)) = symsL (L.take j) ++ [(false, LengthCodeOf y)] ++ [(true, DistCodeOf z)] := by rw [HSN.out, symsT_rep _ _ hy, List.append_assoc]; rfl
          obtain ⟨⟨l1, l2, l3⟩, hlc⟩ : ∃ r, r = LengthCodeOf y := ⟨_, rfl⟩
          obtain ⟨⟨d1, d2, d3⟩, hdc⟩ : ∃ r, r = DistCodeOf z := ⟨_, rfl⟩
          rw [← hlc] at hl hg1 hsn
          rw [← hdc] at hd hg2 hsn
          simp only [] at hl hd
          have HSN2 := hid_of hsn
          have hlen : (symsL (L.take j)).length ≤ 24000 := by have := symsL_length (L.take j); rw [List.length_take] at this; omega
          clear hlc hdc hsn HSN
          go_wp2_with fail
          refine (hp _).mono ?_
          rintro e w1 ⟨rfl, hB1⟩
          have HI1 := hid_of (HS.out.called hSt.out.1 (bnext (bstart wr _) hB1)).1
          clear hB1 hp
          go_wp2_with fail
          refine (hl _).mono ?_
          rintro e w2 ⟨rfl, hB2⟩
          clear hl
          go_wp2_with fail
          refine (newCoded_any _ _ _ _).mono ?_
          rintro e w3 ⟨rfl, hB3⟩
          have hr3 : w3.heap[w1.heap.size]? = some (.cells #[.int .i64 y, .int .i64 z] 174 (0, 0)) := by
            have h1 : w2.heap[w1.heap.size]? = _ := (hB2.block _ (by simp)).trans (heap_alloc_new w1 _)
            exact (hB3.block _ (block_lt h1)).trans h1
          have hb13 := bnext (bnext (bstart w1 (.cells #[.int .i64 y, .int .i64 z] 174)) hB2) hB3
          obtain ⟨hI3, hT3⟩ := HS.out.called HI1.out hb13
          have hnt : ¬ T w3 w1.heap.size := fun h => by have := HS.out.lt HI1.out (hT3 _ h); omega
          have HI3 := hid_of hI3
          have HR3 := hid_of hr3
          have hl3 := block_lt hr3
          clear hB2 hB3 hI3 hT3 hr3 hb13
          go_wp2_with fail
          refine (H1.out w3 _ (l1, l2, l3) HI3.out hg1 (by omega)).mono ?_
          rintro e w4 ⟨rfl, hI4, hsz4, hk4⟩
          have hr4 : w4.heap[w1.heap.size]? = some (.cells #[.int .i64 y, .int .i64 z] 174 (0, 0)) := (hk4 _ hl3 hnt).trans HR3.out
          have c0 : w4.cell? ⟨w1.heap.size, 0, none⟩ = some (.int .i64 y) := (cell_of_block hr4 0).trans rfl
          have c1 : w4.cell? ⟨w1.heap.size, 1, none⟩ = some (.int .i64 z) := (cell_of_block hr4 1).trans rfl
          have HI4 := hid_of hI4
          clear hI4 hsz4 hk4 hr4 HR3 HI3 HI1
          go_wp2_with fail
          refine (hd _).mono ?_
          rintro e w5 ⟨rfl, hB5⟩
          clear hd
          go_wp2_with fail
          refine (newCoded_any _ _ _ _).mono ?_
          rintro e w6 ⟨rfl, hB6⟩
          have HI6 := hid_of (HS.out.called HI4.out (bnext hB5 hB6)).1
          clear hB5 hB6 HI4
          go_wp2_with fail
          refine (H2.out w6 _ (d1, d2, d3) HI6.out hg2 (by rw [List.length_append, List.length_singleton]; omega)).mono ?_
          rintro e w7 ⟨rfl, hI7, _, _⟩
          have HN : Hid (I w7 (symsL (L.take (j + 1))) ∧ ∀ t ∈ L.take (j + 1), TokRight t) := by
            refine ⟨by rw [HSN2.out]; exact hI7, fun t ht => ?_⟩
            rw [HTK.out] at ht
            rcases List.mem_append.mp ht with ht | ht
            · exact hSt.out.2 t ht
            · rw [List.mem_singleton.mp ht]; exact hT
          clear hI7
          go_wp2_with fail
          go_roundg (L.length - (j + 1))
          case measure => omega
          case rel => exact ⟨j + 1, by omega, Nat.le_refl _, by go_num, HN⟩
      · have t1 := nil_literal
        have t2 := nil_repeat
        have hp := fun w => pieceOf_any x y z w
        rw [piece_none hT] at hp
        go_wp2_with fail
        refine (hp _).mono ?_
        rintro e w1 ⟨rfl, hB1⟩
        have HI1 := hid_of (HS.out.called hSt.out.1 (bnext (bstart wr _) hB1)).1
        clear hB1 hp
        go_wp2_with fail
        go_ret
        exact ⟨fun h => absurd (h _ HMEM.out) hT, fun _ => ⟨rfl, _, by first | exact HI1.out | exact (HS.out.called HI1.out (bstart _ _)).1⟩⟩
    · obtain rfl : L.length = j := by omega
      have dl : decide ((L.length : Int) < (L.length : Int)) = false := decide_eq_false (by omega)
      rw [List.take_length] at hSt
      have hlen := symsL_length L
      go_wp2_with fail
      refine (newCoded_any _ _ _ _).mono ?_
      rintro e w1 ⟨rfl, hB1⟩
      have HI1 := hid_of (HS.out.called hSt.out.1 hB1).1
      clear hB1
      go_wp2_with fail
      refine (H1.out w1 _ (256, 0, 0) HI1.out HE.out (by omega)).mono ?_
      rintro e w2 ⟨rfl, hI2, _, _⟩
      have HI2 := hid_of hI2
      clear hI2
      go_wp2_with fail
      go_ret
      exact ⟨fun _ => ⟨rfl, HI2.out⟩, fun h => absurd hSt.out.2 h⟩
end Go.Proofs.YtbcnlggkoidmmaaGreatDoor

namespace Go.Proofs.YtbcnlggkoidmmaaGreatDoor
open Go.RowKit Go.Joins PackageMath

def LimitAnswer : Prop := ∀ (a : Option Addr) (n cap : Nat) (f : Nat → Int) (z : Int) (w : World), Came w a n f → n ≤ 1048576 → (∀ i, i < n → (Lit.int .i64 (f i)).wf = true) → (Lit.int .i64 z).wf = true →
    (LimitRight f n z → Calls Tryz.prog 73 #[.slice a n cap, .int .i64 z] w fun e w' => ∃ (a' : Option Addr) (cap' : Nat), e = .returned (.tuple #[.slice a' n cap', .bool true]) ∧ SL w' w.heap.size a' n cap' (limLen f n z) ∧ Below w.heap.size w w') ∧
    (¬ LimitRight f n z → Calls Tryz.prog 73 #[.slice a n cap, .int .i64 z] w fun e w' => ∃ (a' : Option Addr) (cap' : Nat), e = .returned (.tuple #[.slice a' 0 cap', .bool false]) ∧ Below w.heap.size w w')

end Go.Proofs.YtbcnlggkoidmmaaGreatDoor
