/-
  The walk of the program's limited lengths.
-/
import Derived.Test.YtbcnlggkoidmmaaGreatDoorRows
import Derived.Test.YtbcnlggkoidmmaaGreatDoorPk01
import Derived.Test.YtbcnlggkoidmmaaGreatDoorPk05
import Derived.Test.YtbcnlggkoidmmaaGreatDoorPk11
import Derived.Test.YtbcnlggkoidmmaaGreatDoorPk03
import Derived.Test.YtbcnlggkoidmmaaGreatDoorPk04
import Derived.Test.YtbcnlggkoidmmaaGreatDoorPk29
import Derived.Test.YtbcnlggkoidmmaaGreatDoorPk31
import Derived.Test.YtbcnlggkoidmmaaGreatDoorPk36
import Derived.Test.YtbcnlggkoidmmaaGreatDoorPk37
import Derived.WalkKit
import Derived.ProofKit
import Derived.WalkLawsBesides
import Derived.OwnWalk
import Derived.Lib.SmallJoins
namespace Go.Proofs.YtbcnlggkoidmmaaGreatDoor
open Go.RowKit Go.Joins PackageMath

theorem first_tame {f : Nat → Int} {n : Nat} (hn : n ≤ 288) (hf : ∀ i, i < n → 0 ≤ f i ∧ f i ≤ 12000) : Tame (firstL f n) := by
  refine ⟨?_, first_leafy, first_small hf⟩
  have h1 : (firstL f n).length = posN f n := first_length f n
  have h2 := raw_length f n
  have h3 := raw_short f n
  omega
theorem pos_le (f : Nat → Int) (n : Nat) : posN f n ≤ n := by
  have h2 := raw_length f n
  have h3 := raw_short f n
  omega

theorem pow_small : ∀ z, z ≤ 15 → (2 : Int) ^ z ≤ 32768 := by decide
theorem pow_pos : ∀ z, z ≤ 15 → 1 ≤ (2 : Int) ^ z := by decide
theorem wrap_pow (z : Nat) (h : z ≤ 15) : wrap64 ((2 : Int) ^ z) = 2 ^ z := by
  have h1 := pow_small z h
  have h2 := pow_pos z h
  generalize (2 : Int) ^ z = p at *
  unfold wrap64
  omega

set_option maxRecDepth 100000 in
set_option maxHeartbeats 4000000 in
theorem limit_in (a : Option Addr) (n cap : Nat) (f : Nat → Int) (z : Nat) (w : World) (hC : Came w a n f) (hn : n ≤ 288) (hf : ∀ i, i < n → 0 ≤ f i ∧ f i ≤ 12000) (hz1 : 1 ≤ z) (hz2 : z ≤ 15) (hp : (posN f n : Int) ≤ 2 ^ z) :
    Calls Tryz.prog 73 #[.slice a n cap, .int .i64 (z : Int)] w fun e w' => ∃ g, e = .returned (.tuple #[.slice (some ⟨g, 0, none⟩) n n, .bool true]) ∧ IOwn w' w.heap.size g n n (limLen f n z) ∧ Below w.heap.size w w' := by
  have HF := hid_of hf
  have hsym := symbols_good a n cap f w hC hn hf
  clear hC hf
  have d1 : decide ((z : Int) < 1) = false := decide_eq_false (by omega)
  have d2 : decide ((15 : Int) < (z : Int)) = false := decide_eq_false (by omega)
  have HP := hid_of hp
  obtain ⟨pz, hpz⟩ : ∃ p, p = (2 : Int) ^ z := ⟨_, rfl⟩
  have ew : wrap64 ((2 : Int) ^ z) = pz := by rw [wrap_pow z hz2, hpz]
  obtain ⟨m, hm⟩ : ∃ m, m = posN f n := ⟨_, rfl⟩
  have hpm : (m : Int) ≤ pz := by rw [hm, hpz]; exact hp
  have d3 : decide (pz < (m : Int)) = false := decide_eq_false (by omega)
  have hm288 : m ≤ 288 := by have := pos_le f n; omega
  have HM := hid_of hm
  clear hpz hp
  go_enter Tryz.func73, Tryz.ntmps73
  go_wp2_with fail
  refine hsym.mono ?_
  rintro e w1 ⟨v, rfl, hE, hB⟩
  clear hsym
  have HE := hid_of hE
  have HB1 := hid_of hB
  obtain ⟨a1, c1, hv, hLs, _⟩ := hE
  have hl : (firstL f n).length = m := by rw [hm]; exact first_length f n
  have HLL := hid_of hl
  have HLs := hid_of hLs
  rw [hl] at hv
  subst hv
  have hmk := make_ints w1 n (by omega)
  have HI : Hid (IOwn (w1.alloc (.cells (madeCells #[Value.int .i64 0] n) 3)) w.heap.size w1.heap.size n n (fun _ => 0)) := IOwn.made (base := w.heap.size) w1 n (by unfold maxLen; omega) hB.size
  have HB2 := hid_of (bstart w1 (.cells (madeCells #[Value.int .i64 0] n) 3))
  generalize w1.alloc (.cells (madeCells #[Value.int .i64 0] n) 3) = w2 at hmk HI HB2
  clear hB hl hm hLs
  by_cases hm0 : m = 0
  · have HZ : Hid (IOwn w2 w.heap.size w1.heap.size n n (limLen f n z) ∧ Below w.heap.size w w2) :=
      ⟨HI.out.congr (fun i _ => lim_none (by rw [← HM.out]; exact hm0) i), bnext HB1.out HB2.out⟩
    subst hm0
    go_wp2_with fail
    go_ret2
    exact ⟨_, rfl, HZ.out⟩
  · have e0 : ((m : Int) == 0) = false := by simp; omega
    by_cases hm1 : m = 1
    · subst hm1
      obtain ⟨g, off, rfl, hg, hg2, hc⟩ := HLs.out.cell (by rw [HLL.out]; omega)
      obtain ⟨c0, c1'⟩ := hc 0 (by rw [HLL.out]; omega)
      obtain ⟨s, hs1, hs2, hs3⟩ := first_mem n _ (getD_mem (l := firstL f n) (i := 0) (by rw [HLL.out]; omega))
      rw [hs3, sy_one] at c1'
      have k1 : w2.cell? ⟨g, off + 1, none⟩ = some (.int .i64 (s : Int)) := (HB2.out.cell (p := ⟨g, off + 1, none⟩) hg2).trans (by simpa using c1')
      have k2 : g < w2.heap.size := Nat.lt_of_lt_of_le hg2 HB2.out.size
      have k3 := HI.out.cell s hs1
      have k4 := HI.out.free s hs1
      have k5 := HI.out.lt
      have HZ : Hid (IOwn (w2.setCell ⟨w1.heap.size, s, none⟩ (.int .i64 1)) w.heap.size w1.heap.size n n (limLen f n z) ∧ Below w.heap.size w (w2.setCell ⟨w1.heap.size, s, none⟩ (.int .i64 1))) := by
        refine ⟨(HI.out.set s hs1 1).congr (fun i hi => ?_), (bnext HB1.out HB2.out).setCell (p := ⟨w1.heap.size, s, none⟩) HB1.out.size _⟩
        exact lim_one (by rw [← HM.out]) hs1 hs2 i hi
      clear hc c0 c1' hs2 hs3
      go_wp2_with fail
      go_ret2
      exact ⟨_, rfl, HZ.out⟩
    · have e1 : ((m : Int) == 1) = false := by simp; omega
      have hq : Hid (Elt w2 (.slice a1 (firstL f n).length c1) (firstL f n)) := by
        have h := HE.out
        rw [← HLL.out] at h
        exact h.called HB2.out
      have hTa := first_tame hn HF.out
      have hcl := coinLists_any a1 c1 (firstL f n) z w2 hq.out hTa hz1 hz2
      rw [HLL.out] at hcl
      have hpk := package_syms (c := f) (N := n) (fun i hi => (HF.out i hi).1) (z - 1) (by rw [HLL.out]; omega) (by rw [HLL.out, show z - 1 + 1 = z by omega, HM.out]; exact HP.out)
      have HPK : Hid (2 * m - 2 ≤ (lists (firstL f n) (z - 1)).length) := by
        have h := hpk.1
        rw [HLL.out] at h
        exact h
      have HTa := hid_of hTa
      clear hpk hTa
      go_wp2_with fail
      refine hcl.mono ?_
      rintro e w3 ⟨gS, cS, vs, rfl, hLv⟩
      clear hcl
      have HLv := hid_of hLv
      have HI3 : Hid (IOwn w3 w.heap.size w1.heap.size n n (fun _ => 0)) := HI.out.called hLv.2.2.2
      have hat := addTaken_any w2 w.heap.size w1.heap.size n gS cS z (2 * m - 2) (firstL f n) vs w3 hLv HI3.out HTa.out first_syms hn hz1 hz2 HPK.out
      clear hLv
      rw [show ((2 * m - 2 : Nat) : Int) = 2 * (m : Int) - 2 by omega] at hat
      go_wp2_with fail
      refine hat.mono ?_
      rintro e w4 ⟨rfl, y1, y2⟩
      have HZ : Hid (IOwn w4 w.heap.size w1.heap.size n n (limLen f n z) ∧ Below w.heap.size w w4) := by
        refine ⟨y1.congr (fun i _ => ?_), (bnext (bnext HB1.out HB2.out) HLv.out.2.2.2).trans (y2.mono HB1.out.size)⟩
        have := lim_more (f := f) (n := n) (z := z) (by rw [← HM.out]; omega) i
        rw [← HM.out] at this
        exact this
      clear y1 y2 hat
      go_wp2_with fail
      go_ret2
      exact ⟨_, rfl, HZ.out⟩

set_option maxRecDepth 100000 in
set_option maxHeartbeats 1600000 in
theorem limit_bad (a : Option Addr) (n cap : Nat) (f : Nat → Int) (z : Int) (w : World) (hC : Came w a n f) (hn : n ≤ 1048576) (hR : ¬ LimitRight f n z) :
    Calls Tryz.prog 73 #[.slice a n cap, .int .i64 z] w fun e w' => e = .returned (.tuple #[.slice none 0 0, .bool false]) ∧ Below w.heap.size w w' := by
  by_cases hin : n ≤ 288 ∧ ∀ i, i < n → 0 ≤ f i ∧ f i ≤ 12000
  · have hsym := symbols_good a n cap f w hC hin.1 hin.2
    obtain ⟨m, hm⟩ : ∃ m, m = posN f n := ⟨_, rfl⟩
    have hm288 : m ≤ 288 := by have := pos_le f n; have := hin.1; omega
    have hl : (firstL f n).length = m := by rw [hm]; exact first_length f n
    by_cases h1 : z < 1
    · have d1 : decide (z < 1) = true := decide_eq_true h1
      clear hin hR hC hm
      go_enter Tryz.func73, Tryz.ntmps73
      go_wp2_with fail
      refine hsym.mono ?_
      rintro e w1 ⟨v, rfl, hE, hB⟩
      clear hsym
      have HB := hid_of hB
      obtain ⟨a1, c1, hv, _⟩ := hE
      rw [hl] at hv
      subst hv
      clear hB hl
      go_wp2_with fail
      exact bodyPost_ret (v := .tuple #[.slice none 0 0, .bool false]) (by simp [results, Tryz.results73, go_sem]) rfl ⟨rfl, HB.out⟩
    · have d1 : decide (z < 1) = false := decide_eq_false h1
      by_cases h2 : 15 < z
      · have d2 : decide (15 < z) = true := decide_eq_true h2
        clear hin hR hC hm
        go_enter Tryz.func73, Tryz.ntmps73
        go_wp2_with fail
        refine hsym.mono ?_
        rintro e w1 ⟨v, rfl, hE, hB⟩
        clear hsym
        have HB := hid_of hB
        obtain ⟨a1, c1, hv, _⟩ := hE
        rw [hl] at hv
        subst hv
        clear hB hl
        go_wp2_with fail
        exact bodyPost_ret (v := .tuple #[.slice none 0 0, .bool false]) (by simp [results, Tryz.results73, go_sem]) rfl ⟨rfl, HB.out⟩
      · obtain ⟨k, rfl⟩ := Int.eq_ofNat_of_zero_le (show 0 ≤ z by omega)
        have d2 : decide ((15 : Int) < (k : Int)) = false := decide_eq_false (by omega)
        obtain ⟨pz, hpz⟩ : ∃ p, p = (2 : Int) ^ k := ⟨_, rfl⟩
        have ew : wrap64 ((2 : Int) ^ k) = pz := by rw [wrap_pow k (by omega), hpz]
        have hbig : pz < (m : Int) := by
          rcases Int.lt_or_le pz (m : Int) with q | q
          · exact q
          · refine absurd ⟨hin.1, by omega, by omega, hin.2, ?_⟩ hR
            rw [Int.toNat_natCast, ← hpz, ← hm]
            exact q
        have d3 : decide (pz < (m : Int)) = true := decide_eq_true hbig
        have hk15 : k ≤ 15 := by omega
        clear hin hR hC hm hpz
        go_enter Tryz.func73, Tryz.ntmps73
        go_wp2_with fail
        refine hsym.mono ?_
        rintro e w1 ⟨v, rfl, hE, hB⟩
        clear hsym
        have HB := hid_of hB
        obtain ⟨a1, c1, hv, _⟩ := hE
        rw [hl] at hv
        subst hv
        clear hB hl
        go_wp2_with fail
        exact bodyPost_ret (v := .tuple #[.slice none 0 0, .bool false]) (by simp [results, Tryz.results73, go_sem]) rfl ⟨rfl, HB.out⟩
  · have hsym := symbols_bad a n cap f w hC hn hin
    clear hin hR hC
    go_enter Tryz.func73, Tryz.ntmps73
    go_wp2_with fail
    refine hsym.mono ?_
    rintro e w1 ⟨rfl, hB⟩
    clear hsym
    have HB := hid_of hB
    clear hB
    go_wp2_with fail
    exact bodyPost_ret (v := .tuple #[.slice none 0 0, .bool false]) (by simp [results, Tryz.results73, go_sem]) rfl ⟨rfl, HB.out⟩

theorem limit_answer : LimitAnswer := by
  intro a n cap f z w hC hn hf hz
  constructor
  · intro hR
    obtain ⟨h1, h2, h3, h4, h5⟩ := hR
    obtain ⟨k, rfl⟩ := Int.eq_ofNat_of_zero_le (show 0 ≤ z by omega)
    rw [Int.toNat_natCast] at h5
    refine (limit_in a n cap f k w hC h1 h4 (by omega) (by omega) h5).mono ?_
    rintro e w' ⟨g, rfl, hI, hB⟩
    exact ⟨_, _, rfl, hI.sl, hB⟩
  · intro hR
    refine (limit_bad a n cap f z w hC hn hR).mono ?_
    rintro e w' ⟨rfl, hB⟩
    exact ⟨none, 0, rfl, hB⟩

end Go.Proofs.YtbcnlggkoidmmaaGreatDoor
