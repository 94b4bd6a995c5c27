/-
  The walks of the program's best repeat at any place, of its steps, and of BestMatch, Greedy and Lazy, over what a new matcher holds.
-/
import Derived.Test.YtihcapfdpgaeiaaRows
import Derived.Test.YtihcapfdpgaeiaaBase
import Derived.Test.YtihcapfdpgaeiaaRetLib
import Derived.Test.YtihcapfdpgaeiaaTokMath
import Derived.Test.YtihcapfdpgaeiaaTextLib
import Derived.Test.YtihcapfdpgaeiaaSearchMath
import Derived.Test.YtihcapfdpgaeiaaOccMath
import Derived.Test.YtihcapfdpgaeiaaMatchLib
import Derived.Test.YtihcapfdpgaeiaaMatchImpl
import Derived.Test.YtihcapfdpgaeiaaBestImpl
import Derived.Test.YtihcapfdpgaeiaaWalkImpl
import Derived.WalkKit
import Derived.ProofKit
import Derived.WalkLawsBesides
import Derived.RegionTactic
import Derived.BigRegion
import Derived.BigQuiet
import Derived.Deep.RegionHeld3
import Derived.Below
import Derived.Lib.SmallJoins
namespace Go.Proofs.Ytihcapfdpgaeiaa
open Go.RowKit Go.Joins TokMath SearchMath

set_option maxRecDepth 100000 in
set_option maxHeartbeats 1600000 in
theorem best_out (p : Nat) (s : ByteArray) (c : Nat) (t : Int) (w : World) (hM : Mt w p s c) (_ : s.size ≤ 2600) (ht : t < 0 ∨ ((s.size - 2 : Nat) : Int) ≤ t) :
    Calls Try.prog 35 #[.pointer (some ⟨p, 0, none⟩), .int .i64 t] w fun e w' => e = .returned (.agg #[.int .i64 0, .int .i64 0, .int .i64 0]) ∧ Below w.heap.size w w' := by
  obtain ⟨M, a, cap, G, ⟨m0, m1, m2, m3, hp⟩, hcap, hCa, hKM, hL⟩ := hM
  clear hCa hKM hL
  obtain ⟨W1, hW1⟩ : ∃ W1, W1 = ((w.alloc (.cells #[.pointer (some ⟨p, 0, none⟩)] 46)).alloc (.cells #[.int .i64 t] 3)).alloc (.cells #[.int .i64 0, .int .i64 0, .int .i64 0] 51) := ⟨_, rfl⟩
  obtain ⟨b0, b1, gr, hB1⟩ : W1.cell? ⟨w.heap.size, 0, none⟩ = some (.pointer (some ⟨p, 0, none⟩)) ∧ W1.cell? ⟨w.heap.size + 1, 0, none⟩ = some (.int .i64 t) ∧ W1.heap[w.heap.size + 1 + 1]? = some (.cells #[.int .i64 0, .int .i64 0, .int .i64 0] 51 (0, 0)) ∧ Below w.heap.size w W1 := by
    rw [hW1]
    refine ⟨((bal (bstart _ _) _).cell (p := ⟨w.heap.size, 0, none⟩) (by simp)).trans (by simp), ((bstart _ _).cell (p := ⟨w.heap.size + 1, 0, none⟩) (by simp)).trans (by simp), ?_, bal (bal (bstart _ _) _) _⟩
    have := heap_alloc_new ((w.alloc (.cells #[.pointer (some ⟨p, 0, none⟩)] 46)).alloc (.cells #[.int .i64 t] 3)) (.cells #[.int .i64 0, .int .i64 0, .int .i64 0] 51)
    rw [World.size_alloc, World.size_alloc] at this
    exact this
  have HW1 := hid_of hW1
  have n3 := (hB1.cell (p := ⟨p, 3, none⟩) hp).trans m3
  have r0 : W1.cell? ⟨w.heap.size + 1 + 1, 0, none⟩ = some (.int .i64 0) := (cell_of_block gr 0).trans rfl
  have r1 : W1.cell? ⟨w.heap.size + 1 + 1, 1, none⟩ = some (.int .i64 0) := (cell_of_block gr 1).trans rfl
  have r2 : W1.cell? ⟨w.heap.size + 1 + 1, 2, none⟩ = some (.int .i64 0) := (cell_of_block gr 2).trans rfl
  have rf : ∀ q, W1.frozen? ⟨w.heap.size + 1 + 1, q, none⟩ = false := fun q => by simp [World.frozen?, gr]
  have HEND : Hid (∀ nq, Below w.heap.size w ((((W1.drewN nq).setCell ⟨w.heap.size + 1 + 1, 0, none⟩ (.int .i64 0)).setCell ⟨w.heap.size + 1 + 1, 1, none⟩ (.int .i64 0)).setCell ⟨w.heap.size + 1 + 1, 2, none⟩ (.int .i64 0))) := fun nq => three_below (bdraws hB1 nq) (by omega) _ _ _
  clear hW1 gr hB1 m0 m1 m2 m3
  by_cases h0 : t < 0
  · have d0 : decide (t < 0) = true := decide_eq_true h0
    go_enter Try.func35, Try.ntmps35
    go_wp2_with fail
    rw [← HW1.out]
    clear HW1
    go_quiet (fail)
    go_wp2_with fail
    exact bodyPost_ret (v := .agg #[.int .i64 0, .int .i64 0, .int .i64 0]) (by simp [results, Try.results35, go_sem, r0, r1, r2]) rfl ⟨rfl, HEND.out _⟩
  · have d0 : decide (t < 0) = false := decide_eq_false h0
    have d1 : decide (((s.size - 2 : Nat) : Int) ≤ t) = true := decide_eq_true (by omega)
    have h1 : ((s.size - 2 : Nat) : Int) ≤ t := by omega
    go_enter Try.func35, Try.ntmps35
    go_wp2_with fail
    rw [← HW1.out]
    clear HW1
    go_quiet (fail)
    go_wp2_with fail
    exact bodyPost_ret (v := .agg #[.int .i64 0, .int .i64 0, .int .i64 0]) (by simp [results, Try.results35, go_sem, r0, r1, r2]) rfl ⟨rfl, HEND.out _⟩

/-- The best repeat at a place, of the text or not. -/
theorem best_any (p : Nat) (s : ByteArray) (c t : Nat) (w : World) (hM : Mt w p s c) (hs : s.size ≤ 2600) (hc1 : 1 ≤ c) (hc2 : c ≤ 64) :
    Calls Try.prog 35 #[.pointer (some ⟨p, 0, none⟩), .int .i64 (t : Int)] w fun e w' => e = .returned (.agg #[.int .i64 0, .int .i64 (bestM (txt s) s.size t c).1, .int .i64 (bestM (txt s) s.size t c).2]) ∧ Below w.heap.size w w' := by
  rcases Nat.lt_or_ge (t + 2) s.size with h | h
  · exact best_in p s c t w hM hs hc1 hc2 h
  · rw [best_none h]
    exact best_out p s c t w hM hs (.inr (by omega))

set_option maxHeartbeats 1600000 in
theorem bestOrByte_any (p : Nat) (s : ByteArray) (c t : Nat) (w : World) (hM : Mt w p s c) (hs : s.size ≤ 2600) (hc1 : 1 ≤ c) (hc2 : c ≤ 64) (ht : t < s.size) :
    Calls Try.prog 33 #[.pointer (some ⟨p, 0, none⟩), .int .i64 (t : Int)] w fun e w' => e = .returned (tokV (greedyC (txt s) s.size c t)) ∧ Below w.heap.size w w' := by
  obtain ⟨W1, hW1⟩ : ∃ W1, W1 = w.alloc (.cells #[.int .i64 0, .int .i64 0, .int .i64 0] 51) := ⟨_, rfl⟩
  have gr : W1.heap[w.heap.size]? = some (.cells #[.int .i64 0, .int .i64 0, .int .i64 0] 51 (0, 0)) := by rw [hW1]; exact heap_alloc_new _ _
  have hB1 : Below w.heap.size w W1 := by rw [hW1]; exact bstart _ _
  have hb := best_any p s c t W1 (hM.called hB1) hs hc1 hc2
  have HM := hid_of hM
  have HG : Hid (greedyC (txt s) s.size c t = if (bestM (txt s) s.size t c).1 = 0 then ((txt s t : Int), 0, 0) else (0, ((bestM (txt s) s.size t c).1 : Int), ((bestM (txt s) s.size t c).2 : Int))) := rfl
  generalize bestM (txt s) s.size t c = P at hb HG
  obtain ⟨n, d⟩ := P
  have HW1 := hid_of hW1
  have HGR := hid_of gr
  have HB1 := hid_of hB1
  clear hM hW1 gr hB1
  go_enter Try.func33, Try.ntmps33
  go_wp2_with fail
  rw [← HW1.out]
  refine hb.mono ?_
  rintro e w2 ⟨rfl, hB2⟩
  clear hb
  have hgr2 : ∀ o, (w2.alloc o).heap[w.heap.size]? = some (.cells #[.int .i64 0, .int .i64 0, .int .i64 0] 51 (0, 0)) := fun o => ((bstart w2 o).block _ (Nat.lt_of_lt_of_le (block_lt HGR.out) hB2.size)).trans ((hB2.block _ (block_lt HGR.out)).trans HGR.out)
  have r0 : ∀ o, (w2.alloc o).cell? ⟨w.heap.size, 0, none⟩ = some (.int .i64 0) := fun o => (cell_of_block (hgr2 o) 0).trans rfl
  have r1 : ∀ o, (w2.alloc o).cell? ⟨w.heap.size, 1, none⟩ = some (.int .i64 0) := fun o => (cell_of_block (hgr2 o) 1).trans rfl
  have r2 : ∀ o, (w2.alloc o).cell? ⟨w.heap.size, 2, none⟩ = some (.int .i64 0) := fun o => (cell_of_block (hgr2 o) 2).trans rfl
  have rf : ∀ o q, (w2.alloc o).frozen? ⟨w.heap.size, q, none⟩ = false := fun o q => by simp [World.frozen?, hgr2 o]
  have HB2 : Hid (Below w.heap.size w w2) := bnext HB1.out hB2
  have HGR2 := hid_of hgr2
  clear hgr2 hB2
  by_cases hn : n = 0
  · subst hn
    have HT : Hid (greedyC (txt s) s.size c t = ((txt s t : Int), 0, 0)) := by
      show greedyC (txt s) s.size c t = ((txt s t : Int), 0, 0)
      rw [HG.out]
      rfl
    have hby := fun o => byteAt_any p s t (w2.alloc o) ((HM.out.called (bal HB2.out o)).text).1 ((HM.out.called (bal HB2.out o)).text).2 ht (by omega)
    go_wp2_with fail
    refine (hby _).mono ?_
    rintro e w3 ⟨rfl, hB3⟩
    clear hby
    have hl := block_lt (HGR2.out (.cells #[.int .i64 0, .int .i64 0, .int .i64 (d : Int)] 51))
    have hg3 := (hB3.block _ hl).trans (HGR2.out _)
    have q0 : w3.cell? ⟨w.heap.size, 0, none⟩ = some (.int .i64 0) := (cell_of_block hg3 0).trans rfl
    have q1 : w3.cell? ⟨w.heap.size, 1, none⟩ = some (.int .i64 0) := (cell_of_block hg3 1).trans rfl
    have q2 : w3.cell? ⟨w.heap.size, 2, none⟩ = some (.int .i64 0) := (cell_of_block hg3 2).trans rfl
    have qf : ∀ q, w3.frozen? ⟨w.heap.size, q, none⟩ = false := fun q => by simp [World.frozen?, hg3]
    have HEND : Hid (∀ a b e, Below w.heap.size w (((w3.setCell ⟨w.heap.size, 0, none⟩ a).setCell ⟨w.heap.size, 1, none⟩ b).setCell ⟨w.heap.size, 2, none⟩ e)) := fun a b e => three_below (bnext (bal HB2.out _) hB3) (Nat.le_refl _) _ _ _
    clear r0 r1 r2 rf hB3 hl hg3
    go_wp2_with fail
    exact bodyPost_ret (v := .agg #[.int .i64 (txt s t : Nat), .int .i64 0, .int .i64 0]) (by simp [results, Try.results33, go_sem, q0, q1, q2]) rfl ⟨by rw [HT.out], HEND.out _ _ _⟩
  · have HT : Hid (greedyC (txt s) s.size c t = (0, (n : Int), (d : Int))) := by
      show greedyC (txt s) s.size c t = (0, (n : Int), (d : Int))
      rw [HG.out]
      show (if n = 0 then _ else _) = _
      rw [if_neg hn]
    have dn : decide ((0 : Int) < (n : Int)) = true := decide_eq_true (by omega)
    have HEND : Hid (∀ o a b e, Below w.heap.size w ((((w2.alloc o).setCell ⟨w.heap.size, 0, none⟩ a).setCell ⟨w.heap.size, 1, none⟩ b).setCell ⟨w.heap.size, 2, none⟩ e)) := fun o a b e => three_below (bal HB2.out _) (Nat.le_refl _) _ _ _
    go_wp2_with fail
    exact bodyPost_ret (v := .agg #[.int .i64 0, .int .i64 (n : Int), .int .i64 (d : Int)]) (by simp [results, Try.results33, go_sem, r0, r1, r2]) rfl ⟨by rw [HT.out], HEND.out _ _ _ _⟩

theorem Mt.same {w w' : World} {p : Nat} {s : ByteArray} {c : Nat} (h : Mt w p s c) (e : w'.heap = w.heap) : Mt w' p s c := by
  have hc : ∀ g j, w'.cell? ⟨g, j, none⟩ = w.cell? ⟨g, j, none⟩ := fun g j => by
    unfold World.cell?
    rw [e]
  obtain ⟨M, a, cap, G, ⟨h0, h1, h2, h3, h4⟩, hcp, hCa, hK, hL⟩ := h
  refine ⟨M, a, cap, G, ⟨(hc _ _).trans h0, (hc _ _).trans h1, (hc _ _).trans h2, (hc _ _).trans h3, by rw [e]; exact h4⟩, hcp, ?_, hK.keep (by rw [e]), fun i hi => ?_⟩
  · rcases hCa with q | ⟨g, off, ea, hg, hx⟩
    · exact .inl q
    · exact .inr ⟨g, off, ea, by rw [e]; exact hg, fun j hj => (hc _ _).trans (hx j hj)⟩
  · obtain ⟨g, cp, e1, e2, e3, e4⟩ := hL i hi
    exact ⟨g, cp, e1, e2, by rw [e]; exact e3, fun j hj => (hc _ _).trans (e4 j hj)⟩

theorem field_len (a b c : Int) (w : World) : (Instr.field 51 (.agg #[.int .i64 a, .int .i64 b, .int .i64 c]) 1).run Try.prog w = .ok (.int .i64 b) w := by kernel_rfl

set_option maxHeartbeats 3200000 in
theorem lazyStep_any (p qb : Nat) (s : ByteArray) (c t : Nat) (w : World) (hq : w.cell? ⟨qb, 0, none⟩ = some (.pointer (some ⟨p, 0, none⟩))) (hql : qb < w.heap.size) (hM : Mt w p s c) (hs : s.size ≤ 2600) (hc1 : 1 ≤ c) (hc2 : c ≤ 64) (ht : t < s.size) :
    Calls Try.prog 34 #[.int .i64 (t : Int), .pointer (some ⟨qb, 0, none⟩)] w fun e w' => e = .returned (tokV (lazyC (txt s) s.size c t)) ∧ Below w.heap.size w w' := by
  obtain ⟨W1, hW1⟩ : ∃ W1, W1 = w.alloc (.cells #[.int .i64 0, .int .i64 0, .int .i64 0] 51) := ⟨_, rfl⟩
  have gr : W1.heap[w.heap.size]? = some (.cells #[.int .i64 0, .int .i64 0, .int .i64 0] 51 (0, 0)) := by rw [hW1]; exact heap_alloc_new _ _
  have hB1 : Below w.heap.size w W1 := by rw [hW1]; exact bstart _ _
  have HM1 : Hid (Mt W1 p s c) := hM.called hB1
  have k0 : W1.cell? ⟨qb, 0, none⟩ = some (.pointer (some ⟨p, 0, none⟩)) := (hB1.cell (p := ⟨qb, 0, none⟩) hql).trans hq
  have hq1 : qb < W1.heap.size := Nat.lt_of_lt_of_le hql hB1.size
  have hbN : ∀ w', Mt w' p s c → Calls Try.prog 35 #[.pointer (some ⟨p, 0, none⟩), .int .i64 ((t : Int) + 1)] w' fun e w2 => e = .returned (.agg #[.int .i64 0, .int .i64 (bestM (txt s) s.size (t + 1) c).1, .int .i64 (bestM (txt s) s.size (t + 1) c).2]) ∧ Below w'.heap.size w' w2 := fun w' h => best_any p s c (t + 1) w' h hs hc1 hc2
  have hbT : ∀ w', Mt w' p s c → Calls Try.prog 35 #[.pointer (some ⟨p, 0, none⟩), .int .i64 (t : Int)] w' fun e w2 => e = .returned (.agg #[.int .i64 0, .int .i64 (bestM (txt s) s.size t c).1, .int .i64 (bestM (txt s) s.size t c).2]) ∧ Below w'.heap.size w' w2 := fun w' h => best_any p s c t w' h hs hc1 hc2
  have hgo : ∀ w', Mt w' p s c → Calls Try.prog 33 #[.pointer (some ⟨p, 0, none⟩), .int .i64 (t : Int)] w' fun e w2 => e = .returned (tokV (greedyC (txt s) s.size c t)) ∧ Below w'.heap.size w' w2 := fun w' h => bestOrByte_any p s c t w' h hs hc1 hc2 ht
  have HL : Hid (lazyC (txt s) s.size c t = if (bestM (txt s) s.size t c).1 < (bestM (txt s) s.size (t + 1) c).1 then ((txt s t : Int), 0, 0) else greedyC (txt s) s.size c t) := by
    show lazyC (txt s) s.size c t = _
    unfold lazyC greedyC
    by_cases h1 : (bestM (txt s) s.size t c).1 < (bestM (txt s) s.size (t + 1) c).1
    · rw [if_pos (.inr h1), if_pos h1]
    · rw [if_neg h1]
      by_cases h2 : (bestM (txt s) s.size t c).1 = 0
      · rw [if_pos (.inl h2), if_pos h2]
      · rw [if_neg (fun q => q.elim h2 h1), if_neg h2]
  generalize bestM (txt s) s.size t c = P at hbT HL
  generalize bestM (txt s) s.size (t + 1) c = N at hbN HL
  obtain ⟨n, d⟩ := P
  obtain ⟨n', d'⟩ := N
  generalize greedyC (txt s) s.size c t = GT at hgo HL
  have HW1 := hid_of hW1
  have HGR := hid_of gr
  have HB1 := hid_of hB1
  have HBN := hid_of hbN
  have HBT := hid_of hbT
  clear hM hW1 gr hB1 hbN hbT hq
  have hwr : IntKind.i64.wrap ((t : Int) + 1) = (t : Int) + 1 := wrap_small _ (by omega) (by omega)
  have hfd := fun (a b c : Int) (w : World) => field_len a b c w
  go_enter Try.func34, Try.ntmps34
  go_wp2_with fail
  rw [← HW1.out]
  go_region_held3 (fun w' => w'.cell? ⟨qb, 0, none⟩ = some (.pointer (some ⟨p, 0, none⟩))) (first | assumption | go_keep | (simp [*]; done))
    (first
      | (go_at_call 35; guard_target = Calls Try.prog 35 #[_, Value.int IntKind.i64 (_ + 1)] _ _; refine Calls.mono (HBN.out _ ?_) ?_; exact HM3.out.same rfl; rintro e w4 ⟨rfl, hb4⟩; have k4 : w4.cell? ⟨qb, 0, none⟩ = some (.pointer (some ⟨p, 0, none⟩)) := (hb4.cell (p := ⟨qb, 0, none⟩) hq3).trans k3; have HM4 := hid_of (HM3.out.called hb4); have HB4 := hid_of (bnext HB3.out hb4); have HGR4 := hid_of ((hb4.block _ (block_lt HGR3.out)).trans HGR3.out); have hq4 : qb < w4.heap.size := Nat.lt_of_lt_of_le hq3 hb4.size; clear hb4)
      | (go_at_call 35; guard_target = Calls Try.prog 35 #[_, Value.int IntKind.i64 (Nat.cast _)] _ _; refine Calls.mono (HBT.out _ ?_) ?_; exact HM3.out.same rfl; rintro e w4 ⟨rfl, hb4⟩; have k4 : w4.cell? ⟨qb, 0, none⟩ = some (.pointer (some ⟨p, 0, none⟩)) := (hb4.cell (p := ⟨qb, 0, none⟩) hq3).trans k3; have HM4 := hid_of (HM3.out.called hb4); have HB4 := hid_of (bnext HB3.out hb4); have HGR4 := hid_of ((hb4.block _ (block_lt HGR3.out)).trans HGR3.out); have hq4 : qb < w4.heap.size := Nat.lt_of_lt_of_le hq3 hb4.size; clear hb4)
      | (go_at_call 35; guard_target = Calls Try.prog 35 #[_, Value.int IntKind.i64 (_ + 1)] _ _; refine Calls.mono (HBN.out _ ?_) ?_; exact HM1.out.same rfl; rintro e w3 ⟨rfl, hb3⟩; have k3 : w3.cell? ⟨qb, 0, none⟩ = some (.pointer (some ⟨p, 0, none⟩)) := (hb3.cell (p := ⟨qb, 0, none⟩) hq1).trans k0; have HM3 : Hid (Mt w3 p s c) := Mt.called HM1.out ⟨hb3.1, hb3.2, hb3.3, hb3.4, hb3.5⟩; have HB3 : Hid (Below w.heap.size w w3) := bnext HB1.out ⟨hb3.1, hb3.2, hb3.3, hb3.4, hb3.5⟩; have HGR3 := hid_of ((hb3.block _ (block_lt HGR.out)).trans HGR.out); have hq3 : qb < w3.heap.size := Nat.lt_of_lt_of_le hq1 hb3.size; clear hb3)
      | (go_at_call 35; guard_target = Calls Try.prog 35 #[_, Value.int IntKind.i64 (Nat.cast _)] _ _; refine Calls.mono (HBT.out _ ?_) ?_; exact HM1.out.same rfl; rintro e w3 ⟨rfl, hb3⟩; have k3 : w3.cell? ⟨qb, 0, none⟩ = some (.pointer (some ⟨p, 0, none⟩)) := (hb3.cell (p := ⟨qb, 0, none⟩) hq1).trans k0; have HM3 : Hid (Mt w3 p s c) := Mt.called HM1.out ⟨hb3.1, hb3.2, hb3.3, hb3.4, hb3.5⟩; have HB3 : Hid (Below w.heap.size w w3) := bnext HB1.out ⟨hb3.1, hb3.2, hb3.3, hb3.4, hb3.5⟩; have HGR3 := hid_of ((hb3.block _ (block_lt HGR.out)).trans HGR.out); have hq3 : qb < w3.heap.size := Nat.lt_of_lt_of_le hq1 hb3.size; clear hb3))
  have hg4 := HGR4.out
  have q0 : w4.cell? ⟨w.heap.size, 0, none⟩ = some (.int .i64 0) := (cell_of_block hg4 0).trans rfl
  have q1 : w4.cell? ⟨w.heap.size, 1, none⟩ = some (.int .i64 0) := (cell_of_block hg4 1).trans rfl
  have q2 : w4.cell? ⟨w.heap.size, 2, none⟩ = some (.int .i64 0) := (cell_of_block hg4 2).trans rfl
  clear hg4 k0 k3 hq3 hq1
  by_cases hlt : n < n'
  · have dl : decide (n < n') = true := decide_eq_true hlt
    have HT : Hid (lazyC (txt s) s.size c t = ((txt s t : Int), 0, 0)) := by
      show lazyC (txt s) s.size c t = ((txt s t : Int), 0, 0)
      rw [HL.out]
      show (if n < n' then _ else _) = _
      rw [if_pos hlt]
    have hby := byteAt_any p s t w4 HM4.out.text.1 HM4.out.text.2 ht (by omega)
    go_wp2_with fail
    refine hby.mono ?_
    rintro e w5 ⟨rfl, hB5⟩
    have hg5 := (hB5.block _ (block_lt HGR4.out)).trans HGR4.out
    have r0 : w5.cell? ⟨w.heap.size, 0, none⟩ = some (.int .i64 0) := (cell_of_block hg5 0).trans rfl
    have r1 : w5.cell? ⟨w.heap.size, 1, none⟩ = some (.int .i64 0) := (cell_of_block hg5 1).trans rfl
    have r2 : w5.cell? ⟨w.heap.size, 2, none⟩ = some (.int .i64 0) := (cell_of_block hg5 2).trans rfl
    have rf : ∀ q, w5.frozen? ⟨w.heap.size, q, none⟩ = false := fun q => by simp [World.frozen?, hg5]
    have HEND : Hid (∀ a b e, Below w.heap.size w (((w5.setCell ⟨w.heap.size, 0, none⟩ a).setCell ⟨w.heap.size, 1, none⟩ b).setCell ⟨w.heap.size, 2, none⟩ e)) := fun a b e => three_below (bnext HB4.out hB5) (Nat.le_refl _) _ _ _
    clear hby hB5 hg5
    go_wp2_with fail
    exact bodyPost_ret (v := .agg #[.int .i64 (txt s t : Nat), .int .i64 0, .int .i64 0]) (by simp [results, Try.results34, go_sem, r0, r1, r2]) rfl ⟨by rw [HT.out], HEND.out _ _ _⟩
  · have dl : decide (n < n') = false := decide_eq_false hlt
    have HT : Hid (lazyC (txt s) s.size c t = GT) := by
      show lazyC (txt s) s.size c t = GT
      rw [HL.out]
      show (if n < n' then _ else _) = _
      rw [if_neg hlt]
    have hby := hgo w4 HM4.out
    obtain ⟨gx, gy, gz⟩ := GT
    go_wp2_with fail
    refine hby.mono ?_
    rintro e w5 ⟨rfl, hB5⟩
    have hg5 := (hB5.block _ (block_lt HGR4.out)).trans HGR4.out
    have r0 : w5.cell? ⟨w.heap.size, 0, none⟩ = some (.int .i64 0) := (cell_of_block hg5 0).trans rfl
    have r1 : w5.cell? ⟨w.heap.size, 1, none⟩ = some (.int .i64 0) := (cell_of_block hg5 1).trans rfl
    have r2 : w5.cell? ⟨w.heap.size, 2, none⟩ = some (.int .i64 0) := (cell_of_block hg5 2).trans rfl
    have rf : ∀ q, w5.frozen? ⟨w.heap.size, q, none⟩ = false := fun q => by simp [World.frozen?, hg5]
    have HEND : Hid (∀ a b e, Below w.heap.size w (((w5.setCell ⟨w.heap.size, 0, none⟩ a).setCell ⟨w.heap.size, 1, none⟩ b).setCell ⟨w.heap.size, 2, none⟩ e)) := fun a b e => three_below (bnext HB4.out hB5) (Nat.le_refl _) _ _ _
    clear hby hB5 hg5
    go_wp2_with fail
    exact bodyPost_ret (v := .agg #[.int .i64 gx, .int .i64 gy, .int .i64 gz]) (by simp [results, Try.results34, go_sem, r0, r1, r2]) rfl ⟨by rw [HT.out], HEND.out _ _ _⟩

end Go.Proofs.Ytihcapfdpgaeiaa
