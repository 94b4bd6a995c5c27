/-
  The walks of the program's BestMatch, Greedy and Lazy.
-/
import Derived.Test.YtihcapfdpgaeiaaRows
import Derived.Test.YtihcapfdpgaeiaaBase
import Derived.Test.YtihcapfdpgaeiaaStepLib
import Derived.Test.YtihcapfdpgaeiaaTokMath
import Derived.Test.YtihcapfdpgaeiaaTextLib
import Derived.Test.YtihcapfdpgaeiaaSearchMath
import Derived.Test.YtihcapfdpgaeiaaSearchAns
import Derived.Test.YtihcapfdpgaeiaaMatchLib
import Derived.Test.YtihcapfdpgaeiaaMatchImpl
import Derived.Test.YtihcapfdpgaeiaaNewImpl
import Derived.Test.YtihcapfdpgaeiaaWalkImpl
import Derived.Test.YtihcapfdpgaeiaaStepImpl
import Derived.WalkKit
import Derived.ProofKit
import Derived.WalkLawsBesides
import Derived.BigQuiet
import Derived.Below
import Derived.Lib.SmallJoins
namespace Go.Proofs.Ytihcapfdpgaeiaa
open Go.RowKit Go.Joins TokMath SearchMath

theorem best_int (p : Nat) (s : ByteArray) (c : Nat) (t : Int) (w : World) (hM : Mt w p s c) (hs : s.size ≤ 2600) (hc1 : 1 ≤ c) (hc2 : c ≤ 64) :
    Calls Try.prog 35 #[.pointer (some ⟨p, 0, none⟩), .int .i64 t] w fun e w' => e = .returned (.agg #[.int .i64 0, .int .i64 ((bestOf s t c).1 : Nat), .int .i64 ((bestOf s t c).2 : Nat)]) ∧ Below w.heap.size w w' := by
  by_cases h : 0 ≤ t ∧ t < (s.size : Int)
  · obtain ⟨k, rfl⟩ := Int.eq_ofNat_of_zero_le h.1
    have e : bestOf s (k : Int) (c : Int) = bestM (txt s) s.size k c := by
      unfold bestOf
      rw [if_pos ⟨hs, h, by omega, by omega⟩]
      rfl
    rw [e]
    exact best_any p s c k w hM hs hc1 hc2
  · have e : bestOf s t (c : Int) = (0, 0) := by
      unfold bestOf
      rw [if_neg (fun k => h k.2.1)]
    rw [e]
    exact best_out p s c t w hM hs (by omega)

set_option maxHeartbeats 1600000 in
theorem best_answer : BestAnswer := by
  intro s t c w hs _ _
  have hcm := canMatch_any s c w hs
  by_cases hR : s.size ≤ 2600 ∧ 1 ≤ c ∧ c ≤ 64
  · rw [decide_eq_true hR] at hcm
    obtain ⟨hs2, hc1, hc2⟩ := hR
    obtain ⟨ch, rfl⟩ := Int.eq_ofNat_of_zero_le (show 0 ≤ c by omega)
    have hnew := newMatcher_any s ch w hs2 (by omega)
    have HBI : Hid (∀ w', Mt w' (w.heap.size + 1) s ch → Calls Try.prog 35 #[.pointer (some ⟨w.heap.size + 1, 0, none⟩), .int .i64 t] w' fun e w2 => e = .returned (.agg #[.int .i64 0, .int .i64 ((bestOf s t ch).1 : Nat), .int .i64 ((bestOf s t ch).2 : Nat)]) ∧ Below w'.heap.size w' w2) := fun w' h => best_int _ s ch t w' h hs2 (by omega) (by omega)
    generalize bestOf s t (ch : Int) = B at HBI
    go_enter Try.func17, Try.ntmps17
    go_wp2_with fail
    refine hcm.mono ?_
    rintro e w1 ⟨rfl, rfl⟩
    clear hcm
    go_wp2_with fail
    refine hnew.mono ?_
    rintro e w2 ⟨rfl, hM2, hB2⟩
    have hb := HBI.out w2 hM2
    have HB2 := hid_of hB2
    clear hnew hM2 hB2 HBI
    go_wp2_with fail
    refine hb.mono ?_
    rintro e w3 ⟨rfl, hB3⟩
    have HB3 : Hid (∀ o k, Below w1.heap.size w1 ((w3.alloc o).drewN k)) := fun o k => bdraws (bal (bnext HB2.out hB3) o) k
    clear hb hB3
    go_wp2_with fail
    go_quiet (fail)
    go_wp2_with fail
    go_ret2
    exact ⟨rfl, HB3.out _ _⟩
  · rw [decide_eq_false hR] at hcm
    have e : bestOf s t c = (0, 0) := by
      unfold bestOf
      rw [if_neg (fun k => hR ⟨k.1, k.2.2⟩)]
    rw [e]
    go_enter Try.func17, Try.ntmps17
    go_wp2_with fail
    refine hcm.mono ?_
    rintro e w1 ⟨rfl, rfl⟩
    go_wp2_with fail
    go_ret2
    exact ⟨rfl, Below.refl _ _⟩

set_option maxHeartbeats 1600000 in
theorem greedy_answer : GreedyAnswer := by
  intro s c w hs _
  have hcm := canMatch_any s c w hs
  refine ⟨fun hR => ?_, fun hR => ?_⟩
  · have hR' : s.size ≤ 2600 ∧ 1 ≤ c ∧ c ≤ 64 := hR
    rw [decide_eq_true hR'] at hcm
    obtain ⟨hs2, hc1, hc2⟩ := hR
    obtain ⟨ch, rfl⟩ := Int.eq_ofNat_of_zero_le (show 0 ≤ c by omega)
    have hnew := newMatcher_any s ch w hs2 (by omega)
    go_enter Try.func12, Try.ntmps12
    go_wp2_with fail
    refine hcm.mono ?_
    rintro e w1 ⟨rfl, rfl⟩
    clear hcm
    go_wp2_with fail
    refine hnew.mono ?_
    rintro e w2 ⟨rfl, hM2, hB2⟩
    have hwk := walk_bound (w1.heap.size + 1) s (greedyC (txt s) s.size ch) w2 hM2.text.1 hM2.text.2 hs2 (fun i _ => greedy_fine _ _ _ i) (fun w' hb i hi => bestOrByte_any _ s ch i w' (hM2.called hb) hs2 (by omega) (by omega) hi)
    have HB2 := hid_of hB2
    clear hnew hM2 hB2
    go_wp2_with fail
    refine hwk.mono ?_
    rintro e w3 ⟨a, cap, rfl, ht, hcp, hB3⟩
    have HZ : Hid (TSL w3 w1.heap.size a (greedyL s (ch : Int)).length (fun j => (greedyL s (ch : Int)).getD j (0, 0, 0)) ∧ (greedyL s (ch : Int)).length ≤ cap ∧ Below w1.heap.size w1 w3) := by
      refine ⟨?_, hcp, bnext HB2.out hB3⟩
      rcases ht with q | ⟨g, e, ho⟩
      · exact .inl q
      · exact .inr ⟨g, e, Nat.le_trans HB2.out.size ho.1, ho.2⟩
    clear hwk ht hcp hB3
    go_wp2_with fail
    go_ret2
    exact ⟨a, cap, rfl, HZ.out.1, HZ.out.2.1, HZ.out.2.2⟩
  · have hR' : ¬ (s.size ≤ 2600 ∧ 1 ≤ c ∧ c ≤ 64) := hR
    rw [decide_eq_false hR'] at hcm
    go_enter Try.func12, Try.ntmps12
    go_wp2_with fail
    refine hcm.mono ?_
    rintro e w1 ⟨rfl, rfl⟩
    go_wp2_with fail
    go_ret2
    exact ⟨none, 0, rfl, fun g off e => (by cases e), Below.refl _ _⟩

set_option maxHeartbeats 1600000 in
theorem lazy_answer : LazyAnswer := by
  intro s c w hs _
  have hcm := canMatch_any s c w hs
  refine ⟨fun hR => ?_, fun hR => ?_⟩
  · have hR' : s.size ≤ 2600 ∧ 1 ≤ c ∧ c ≤ 64 := hR
    rw [decide_eq_true hR'] at hcm
    obtain ⟨hs2, hc1, hc2⟩ := hR
    obtain ⟨ch, rfl⟩ := Int.eq_ofNat_of_zero_le (show 0 ≤ c by omega)
    have hnew := newMatcher_any s ch w hs2 (by omega)
    go_enter Try.func13, Try.ntmps13
    go_wp2_with fail
    refine hcm.mono ?_
    rintro e w1 ⟨rfl, rfl⟩
    clear hcm
    go_wp2_with fail
    refine hnew.mono ?_
    rintro e w2 ⟨rfl, hM2, hB2⟩
    obtain ⟨W3, hW3⟩ : ∃ W, W = w2.alloc (.cells #[.pointer (some ⟨w1.heap.size + 1, 0, none⟩)] 46) := ⟨_, rfl⟩
    have hM3 : Mt W3 (w1.heap.size + 1) s ch := by rw [hW3]; exact hM2.called (bstart _ _)
    have hbx : W3.cell? ⟨w2.heap.size, 0, none⟩ = some (.pointer (some ⟨w1.heap.size + 1, 0, none⟩)) := by rw [hW3]; simp
    have hlx : w2.heap.size < W3.heap.size := by rw [hW3]; simp
    have hwk := walk_lazy (w1.heap.size + 1) w2.heap.size s (lazyC (txt s) s.size ch) W3 hM3.text.1 hM3.text.2 hs2 (fun i _ => lazy_fine _ _ _ i) (fun w' hb i hi => lazyStep_any _ _ s ch i w' ((hb.cell (p := ⟨w2.heap.size, 0, none⟩) hlx).trans hbx) (Nat.lt_of_lt_of_le hlx hb.size) (hM3.called hb) hs2 (by omega) (by omega) hi)
    have HB3 : Hid (Below w1.heap.size w1 W3) := by
      show Below w1.heap.size w1 W3
      rw [hW3]
      exact bal hB2 _
    have HW3 := hid_of hW3
    clear hnew hM2 hB2 hM3 hW3
    go_wp2_with fail
    rw [← HW3.out]
    refine hwk.mono ?_
    rintro e w3 ⟨a, cap, rfl, ht, hcp, hB3⟩
    have HZ : Hid (TSL w3 w1.heap.size a (lazyL s (ch : Int)).length (fun j => (lazyL s (ch : Int)).getD j (0, 0, 0)) ∧ (lazyL s (ch : Int)).length ≤ cap ∧ Below w1.heap.size w1 w3) := by
      refine ⟨?_, hcp, bnext HB3.out hB3⟩
      rcases ht with q | ⟨g, e, ho⟩
      · exact .inl q
      · exact .inr ⟨g, e, Nat.le_trans HB3.out.size ho.1, ho.2⟩
    clear hwk ht hcp hB3
    go_wp2_with fail
    go_ret2
    exact ⟨a, cap, rfl, HZ.out.1, HZ.out.2.1, HZ.out.2.2⟩
  · have hR' : ¬ (s.size ≤ 2600 ∧ 1 ≤ c ∧ c ≤ 64) := hR
    rw [decide_eq_false hR'] at hcm
    go_enter Try.func13, Try.ntmps13
    go_wp2_with fail
    refine hcm.mono ?_
    rintro e w1 ⟨rfl, rfl⟩
    go_wp2_with fail
    go_ret2
    exact ⟨none, 0, rfl, fun g off e => (by cases e), Below.refl _ _⟩

end Go.Proofs.Ytihcapfdpgaeiaa
