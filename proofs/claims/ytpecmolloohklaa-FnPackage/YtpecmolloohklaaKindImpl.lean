/-
  The walk of the program's CodeKind.
-/
import Derived.Test.YtpecmolloohklaaRows
import Derived.Test.YtpecmolloohklaaBase
import Derived.Test.YtpecmolloohklaaOutMath
import Derived.Test.YtpecmolloohklaaCodeMath
import Derived.Test.YtpecmolloohklaaFullMath
import Derived.Test.YtpecmolloohklaaSixLib
import Derived.Test.YtpecmolloohklaaIntsLib
import Derived.Test.YtpecmolloohklaaCountImpl
import Derived.Test.YtpecmolloohklaaFullImpl
import Derived.Test.YtpecmolloohklaaSixEq
import Derived.Test.YtpecmolloohklaaKindAns
import Derived.WalkKit
import Derived.ProofKit
import Derived.WalkLawsBesides
import Derived.Lib.SmallJoins
namespace Go.Proofs.Ytpecmolloohklaa
open Go.RowKit Go.Joins OutMath CodeMath

theorem ret_num {a b : Int} (h : a = b) : Ending.returned (.int .i64 a) = .returned (.int .i64 b) := by rw [h]

set_option maxHeartbeats 1600000 in
theorem implKind_yes (a : Option Addr) (n cap : Nat) (f : Nat → Int) (w : World) (hC : Came w a n f) (hm : n ≤ 288) (hok : OkLens f n) :
    Calls Try.prog 34 #[.slice a n cap] w fun e w' => e = .returned (.int .i64 (kindOf f n)) ∧ Below w.heap.size w w' := by
  have HC : Hid (Came w a n f) := hC
  have HO : Hid (OkLens f n) := hok
  have hr := (room_bd f n).2 hok
  have hr0 := (room_bd f n).1
  clear hC hok
  go_enter Try.func34, Try.ntmps34
  go_wp2_with fail
  refine (count_yes a n cap f _ HC.out hm HO.out).mono ?_
  rintro e w1 ⟨rfl, hb1⟩
  go_wp2_with fail
  refine (fullTo_any (cs f n) _ (fun s => by have := cs_bd f n s; omega)).mono ?_
  rintro e w2 ⟨rfl, hb2⟩
  rw [full_room f n HO.out]
  have hS : Six w2 w1.heap.size 68 (cs f n) := by
    show _ = _
    rw [hb2.block _ (by simp)]
    exact heap_alloc_new w1 _
  have hB : Below w.heap.size w w2 := bnext (bal hb1 _) hb2
  have k1 := hS.c
  have f1 := hS.f
  have hz := hS.lt
  clear hb1 hb2 hS
  by_cases q1 : cnt f n = 0
  · have E0 : ∀ u, (Op.equalIn 10000 68 (.agg #[.int .i64 (cs f n 0), .int .i64 (cs f n 1), .int .i64 (cs f n 2), .int .i64 (cs f n 3), .int .i64 (cs f n 4), .int .i64 (cs f n 5), .int .i64 (cs f n 6), .int .i64 (cs f n 7), .int .i64 (cs f n 8), .int .i64 (cs f n 9), .int .i64 (cs f n 10), .int .i64 (cs f n 11), .int .i64 (cs f n 12), .int .i64 (cs f n 13), .int .i64 (cs f n 14), .int .i64 (cs f n 15)]) (.agg #[.int .i64 0, .int .i64 0, .int .i64 0, .int .i64 0, .int .i64 0, .int .i64 0, .int .i64 0, .int .i64 0, .int .i64 0, .int .i64 0, .int .i64 0, .int .i64 0, .int .i64 0, .int .i64 0, .int .i64 0, .int .i64 0])).run Try.prog u = .ok true u := six_eq (cs f n) (fun _ => 0) true (by simpa using (cs_none HO.out).1 q1)
    have HK : Hid (kindOf f n = 1) := by show kindOf f n = 1; unfold kindOf; rw [if_pos q1]
    clear q1
    go_wp2_with fail
    go_ret
    exact ⟨ret_num HK.out.symm, hB⟩
  · have E0 : ∀ u, (Op.equalIn 10000 68 (.agg #[.int .i64 (cs f n 0), .int .i64 (cs f n 1), .int .i64 (cs f n 2), .int .i64 (cs f n 3), .int .i64 (cs f n 4), .int .i64 (cs f n 5), .int .i64 (cs f n 6), .int .i64 (cs f n 7), .int .i64 (cs f n 8), .int .i64 (cs f n 9), .int .i64 (cs f n 10), .int .i64 (cs f n 11), .int .i64 (cs f n 12), .int .i64 (cs f n 13), .int .i64 (cs f n 14), .int .i64 (cs f n 15)]) (.agg #[.int .i64 0, .int .i64 0, .int .i64 0, .int .i64 0, .int .i64 0, .int .i64 0, .int .i64 0, .int .i64 0, .int .i64 0, .int .i64 0, .int .i64 0, .int .i64 0, .int .i64 0, .int .i64 0, .int .i64 0, .int .i64 0])).run Try.prog u = .ok false u := six_eq (cs f n) (fun _ => 0) false (by
      refine ⟨fun h => absurd h (by simp), fun h => absurd ((cs_none HO.out).2 h) q1⟩)
    by_cases q2 : room f n = 32768
    · have d2 : (room f n == 32768) = true := by simpa using q2
      have HK : Hid (kindOf f n = 2) := by show kindOf f n = 2; unfold kindOf; rw [if_neg q1, if_pos q2]
      clear q1 q2
      go_wp2_with fail
      go_ret
      exact ⟨ret_num HK.out.symm, hB⟩
    · have d2 : (room f n == 32768) = false := by simpa using q2
      by_cases q3 : 32768 < room f n
      · have d3 : decide (32768 < room f n) = true := by simpa using q3
        have HK : Hid (kindOf f n = 5) := by show kindOf f n = 5; unfold kindOf; rw [if_neg q1, if_neg q2, if_pos q3]
        clear q1 q2 q3
        go_wp2_with fail
        go_ret
        exact ⟨ret_num HK.out.symm, hB⟩
      · have d3 : decide (32768 < room f n) = false := by simpa using q3
        by_cases q4 : cnt f n = 1 ∧ room f n = 16384
        · have E1 : ∀ u, (Op.equalIn 10000 68 (.agg #[.int .i64 (cs f n 0), .int .i64 (cs f n 1), .int .i64 (cs f n 2), .int .i64 (cs f n 3), .int .i64 (cs f n 4), .int .i64 (cs f n 5), .int .i64 (cs f n 6), .int .i64 (cs f n 7), .int .i64 (cs f n 8), .int .i64 (cs f n 9), .int .i64 (cs f n 10), .int .i64 (cs f n 11), .int .i64 (cs f n 12), .int .i64 (cs f n 13), .int .i64 (cs f n 14), .int .i64 (cs f n 15)]) (.agg #[.int .i64 0, .int .i64 1, .int .i64 0, .int .i64 0, .int .i64 0, .int .i64 0, .int .i64 0, .int .i64 0, .int .i64 0, .int .i64 0, .int .i64 0, .int .i64 0, .int .i64 0, .int .i64 0, .int .i64 0, .int .i64 0])).run Try.prog u = .ok true u := six_eq (cs f n) one1 true (by simpa using (cs_single HO.out).1 q4)
          have HK : Hid (kindOf f n = 3) := by show kindOf f n = 3; unfold kindOf; rw [if_neg q1, if_neg q2, if_neg q3, if_pos q4]
          clear q1 q2 q3 q4
          go_wp2_with fail
          go_ret
          exact ⟨ret_num HK.out.symm, hB⟩
        · have E1 : ∀ u, (Op.equalIn 10000 68 (.agg #[.int .i64 (cs f n 0), .int .i64 (cs f n 1), .int .i64 (cs f n 2), .int .i64 (cs f n 3), .int .i64 (cs f n 4), .int .i64 (cs f n 5), .int .i64 (cs f n 6), .int .i64 (cs f n 7), .int .i64 (cs f n 8), .int .i64 (cs f n 9), .int .i64 (cs f n 10), .int .i64 (cs f n 11), .int .i64 (cs f n 12), .int .i64 (cs f n 13), .int .i64 (cs f n 14), .int .i64 (cs f n 15)]) (.agg #[.int .i64 0, .int .i64 1, .int .i64 0, .int .i64 0, .int .i64 0, .int .i64 0, .int .i64 0, .int .i64 0, .int .i64 0, .int .i64 0, .int .i64 0, .int .i64 0, .int .i64 0, .int .i64 0, .int .i64 0, .int .i64 0])).run Try.prog u = .ok false u := six_eq (cs f n) one1 false (by
            refine ⟨fun h => absurd h (by simp), fun h => absurd ((cs_single HO.out).2 h) q4⟩)
          have HK : Hid (kindOf f n = 4) := by show kindOf f n = 4; unfold kindOf; rw [if_neg q1, if_neg q2, if_neg q3, if_neg q4]
          clear q1 q2 q3 q4
          go_wp2_with fail
          go_ret
          exact ⟨ret_num HK.out.symm, hB⟩

set_option maxHeartbeats 800000 in
theorem implKind_no (a : Option Addr) (n cap : Nat) (f : Nat → Int) (w : World) (hC : Came w a n f) (hn : n ≤ 1048576) (hf : ∀ i, i < n → (Lit.int .i64 (f i)).wf = true) (hb : ¬ (n ≤ 288 ∧ OkLens f n)) :
    Calls Try.prog 34 #[.slice a n cap] w fun e w' => e = .returned (.int .i64 0) ∧ Below w.heap.size w w' := by
  have HC : Hid (Came w a n f) := hC
  have HB : Hid (¬ (n ≤ 288 ∧ OkLens f n)) := hb
  have HF : Hid (∀ i, i < n → (Lit.int .i64 (f i)).wf = true) := hf
  clear hC hb hf
  go_enter Try.func34, Try.ntmps34
  go_wp2_with fail
  refine (count_no a n cap f _ HC.out hn HF.out HB.out).mono ?_
  rintro e w1 ⟨rfl, hb1⟩
  go_wp2_with fail
  refine (fullTo_any (fun _ => 0) _ (fun s => by omega)).mono ?_
  rintro e w2 ⟨rfl, hb2⟩
  have hB : Below w.heap.size w w2 := bnext (bal hb1 _) hb2
  clear hb1 hb2
  go_wp2_with fail
  go_ret
  exact ⟨rfl, hB⟩

theorem kind_answer : KindAnswer := by
  intro a n cap f w hC hn hf
  by_cases h : n ≤ 288 ∧ OkLens f n
  · refine (implKind_yes a n cap f w hC h.1 h.2).mono ?_
    rintro e w1 ⟨rfl, hb⟩
    exact ⟨_, rfl, .inr ⟨h.1, h.2, rfl⟩, hb⟩
  · refine (implKind_no a n cap f w hC hn hf h).mono ?_
    rintro e w1 ⟨rfl, hb⟩
    exact ⟨_, rfl, .inl ⟨rfl, h⟩, hb⟩

end Go.Proofs.Ytpecmolloohklaa
