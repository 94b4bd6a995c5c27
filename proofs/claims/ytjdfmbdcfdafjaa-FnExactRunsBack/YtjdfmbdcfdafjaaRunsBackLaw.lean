/-
  The walk of the law FnExactRunsBack, over what the model and the program answer.
-/
import Derived.Test.YtjdfmbdcfdafjaaRows
import Derived.Test.YtjdfmbdcfdafjaaBase
import Derived.Test.YtjdfmbdcfdafjaaOwnLib
import Derived.Test.YtjdfmbdcfdafjaaRowLib
import Derived.Test.YtjdfmbdcfdafjaaIntsLib
import Derived.Test.YtjdfmbdcfdafjaaIntsWalks
import Derived.Test.YtjdfmbdcfdafjaaMarkWalks
import Derived.Test.YtjdfmbdcfdafjaaKeepLib
import Derived.Test.YtjdfmbdcfdafjaaRunWalks
import Derived.Test.YtjdfmbdcfdafjaaRunArgs
import Derived.WalkKit
import Derived.ProofKit
import Derived.OpenShut
import Derived.Below
import Derived.Lib.SmallJoins
namespace Go.Proofs.Ytjdfmbdcfdafjaa
open Go.RowKit Go.Joins

set_option maxHeartbeats 1600000 in
theorem FnExactRunsBack_at (a : Option Addr) (n cap m : Nat) (F : Nat → Int × Int) (G : Nat → Int) (b : Bool) (w : World) (hC : DCame w a n F) (hn : (n : Int) ≤ 1048576) (hm : m ≤ 1048576) (z : Int)
    (hx : ∀ (g : Nat) (w : World), DOwn w g g n F → Calls Try.prog 21 #[.slice (some ⟨g, 0, none⟩) n n, .int .i64 z] w fun e w' => ∃ (am : Option Addr) (cap' : Nat), e = .returned (.tuple #[.slice am m cap', .bool b]) ∧ Came w' am m G ∧ (∀ g off, am = some ⟨g, off, none⟩ → g < w'.heap.size) ∧ Below w.heap.size w w')
    (hy : ∀ (g : Nat) (w : World), DOwn w g g n F → Calls Try.prog 11 #[.slice (some ⟨g, 0, none⟩) n n, .int .i64 z] w fun e w' => ∃ (a' : Option Addr) (cap' : Nat), e = .returned (.tuple #[.slice a' m cap', .bool b]) ∧ SL w' w.heap.size a' m cap' G ∧ Below w.heap.size w w') :
    Calls Try.prog 5 #[.slice a n cap, .int .i64 z] w fun e w' => e = .returned (.bool true) ∧ Below w.heap.size w w' := by
  have Hx : Hid (∀ (g : Nat) (w : World), DOwn w g g n F → Calls Try.prog 21 #[.slice (some ⟨g, 0, none⟩) n n, .int .i64 z] w fun e w' => ∃ (am : Option Addr) (cap' : Nat), e = .returned (.tuple #[.slice am m cap', .bool b]) ∧ Came w' am m G ∧ (∀ g off, am = some ⟨g, off, none⟩ → g < w'.heap.size) ∧ Below w.heap.size w w') := hx
  have Hy : Hid (∀ (g : Nat) (w : World), DOwn w g g n F → Calls Try.prog 11 #[.slice (some ⟨g, 0, none⟩) n n, .int .i64 z] w fun e w' => ∃ (a' : Option Addr) (cap' : Nat), e = .returned (.tuple #[.slice a' m cap', .bool b]) ∧ SL w' w.heap.size a' m cap' G ∧ Below w.heap.size w w') := hy
  have HC : Hid (DCame w a n F) := hC
  have hbb : (b != b) = false := bne_self_eq_false b
  clear hx hy hC
  go_enter Try.func5, Try.ntmps5
  go_wp2_with fail
  refine (szRunS_any a n cap 1048576 w (by omega) (by omega) (by omega)).mono ?_
  rintro e w0 ⟨rfl, rfl⟩
  rw [if_pos hn]
  have dz : decide ((1048576 : Int) - (n : Int) < 0) = false := decide_eq_false (by omega)
  go_wp2_with fail
  refine (toRunS_any a n cap F w HC.out (by omega)).mono ?_
  rintro e w1 ⟨rfl, hO1, hB1⟩
  go_wp2_with fail
  refine (Hx.out _ w1 hO1).mono ?_
  rintro e w2 ⟨am, cs, rfl, hW0, hz2', hB2⟩
  have hz2 := hid_of hz2'
  clear hz2'
  have hB12 := bnext hB1 hB2
  go_wp2_with fail
  refine (toRunS_any a n cap F w2 (HC.out.called hB12) (by omega)).mono ?_
  rintro e w3 ⟨rfl, hO3, hB3⟩
  go_wp2_with fail
  refine (Hy.out _ w3 hO3).mono ?_
  rintro e w4 ⟨a', cap', rfl, hS4, hB4⟩
  have s1 := hB1.size
  have s2 := hB2.size
  have s3 := hB3.size
  have s4 := hB4.size
  have l3 := hO3.lt
  have HS4 : Hid (ListKeep w w4 w3.heap.size am a' m cap' G G) := ⟨bnext (bnext hB12 hB3) hB4, (hW0.called hB3).called hB4, fun g off e => Nat.lt_of_lt_of_le (hz2.out g off e) s3, by omega, by omega, hS4⟩
  have HX4 : Hid (DOwn w4 w2.heap.size w2.heap.size n F) := hO3.called hB4
  have hg1 : w1.heap.size ≤ w2.heap.size := s2
  have hg2 : w2.heap.size < w3.heap.size := l3
  have hg0 : w.heap.size ≤ w1.heap.size := s1
  clear hO1 hB1 hW0 hB2 hO3 hB3 hS4 hB4 hB12 s1 s2 s3 s4 l3
  go_wp2_with fail
  refine (eqIntS_same _ _ m _ _ G w4 HS4.out.2.2.2.2.2.came HS4.out.2.1 hm).mono ?_
  rintro e w5 ⟨rfl, hB5⟩
  have HS5 : Hid (ListKeep w w5 w3.heap.size am a' m cap' G G) := HS4.out.next hB5
  have HX5 : Hid (DOwn w5 w2.heap.size w2.heap.size n F) := HX4.out.called hB5
  clear hB5 HS4 HX4
  go_wp2_with fail
  refine (toRunS_any a n cap F w5 (HC.out.called HS5.out.1) (by omega)).mono ?_
  rintro e w6 ⟨rfl, hO6, hB6⟩
  have HS6 : Hid (ListKeep w w6 w3.heap.size am a' m cap' G G) := HS5.out.next hB6
  have HX6 : Hid (DOwn w6 w2.heap.size w2.heap.size n F) := HX5.out.called hB6
  have HO6 : Hid (DOwn w6 w5.heap.size w5.heap.size n F) := hO6
  clear hB6 HS5 HX5 hO6
  go_wp2_with fail
  refine (eqRunS_same _ _ n _ _ F w6 HX6.out.came HO6.out.came (by omega)).mono ?_
  rintro e w7 ⟨rfl, hB7⟩
  have HS7 : Hid (ListKeep w w7 w3.heap.size am a' m cap' G G) := HS6.out.next hB7
  have HX7 : Hid (DOwn w7 w2.heap.size w2.heap.size n F) := HX6.out.called hB7
  clear hB7 HS6 HX6 HO6
  go_wp2_with fail
  refine (markRunS_own _ _ n n F 1 w7 HX7.out (by omega) (by omega) (by omega)).mono ?_
  rintro e w8 ⟨rfl, hO8, hG8⟩
  have HS8 : Hid (ListKeep w w8 w3.heap.size am a' m cap' G G) := by
    obtain ⟨k1, k2, k3, k4, k5, k6⟩ := HS7.out
    refine ⟨k1.grown hG8 (by have := HX7.out.lt; omega) (fun k hk => by cases hk; omega), k2.grown (B := w2.heap.size) (fun g off e => ?_) (fun k hk => by cases hk; exact Nat.le_refl _) hG8, k3, Nat.le_trans k4 hG8.size, k5, ?_⟩
    · exact hz2.out g off e
    · rcases k6 with k6 | ⟨g, rfl, k6⟩
      · exact .inl k6
      · exact .inr ⟨g, rfl, k6.grown hG8 (fun e => by cases e; have := k6.base_le; omega)⟩
  clear hO8 hG8 HS7 HX7
  go_wp2_with fail
  refine (eqIntS_same _ _ m _ _ G w8 HS8.out.2.2.2.2.2.came HS8.out.2.1 hm).mono ?_
  rintro e w9 ⟨rfl, hB9⟩
  have HS9 : Hid (ListKeep w w9 w3.heap.size am a' m cap' G G) := HS8.out.next hB9
  clear hB9 HS8
  go_wp2_with fail
  refine (markIntS_sl _ a' m cap' G 1 w9 HS9.out.2.2.2.2.2 hm (by omega) (by omega)).mono ?_
  rintro e w10 ⟨rfl, hS10, row, hrow, hG10⟩
  have HS10 : Hid (ListKeep w w10 w3.heap.size am a' m cap' G (fun j => 1 + j)) := by
    obtain ⟨k1, k2, k3, k4, k5, k6⟩ := HS9.out
    exact ⟨k1.grown hG10 (by omega) (fun k hk => by have := hrow k hk; omega), k2.grown (B := w3.heap.size) k3 hrow hG10, k3, Nat.le_trans k4 hG10.size, k5, hS10⟩
  clear hS10 hrow hG10 HS9
  go_wp2_with fail
  refine (heldIntS_same a' m cap' 1 w10 HS10.out.2.2.2.2.2.came hm (by omega) (by omega)).mono ?_
  rintro e w11 ⟨rfl, hB11⟩
  have HS11 : Hid (ListKeep w w11 w3.heap.size am a' m cap' G (fun j => 1 + j)) := HS10.out.next hB11
  clear hB11 HS10
  go_wp2_with fail
  refine (toRunS_any a n cap F w11 (HC.out.called HS11.out.1) (by omega)).mono ?_
  rintro e w12 ⟨rfl, hO12, hB12⟩
  have HS12 : Hid (ListKeep w w12 w3.heap.size am a' m cap' G (fun j => 1 + j)) := HS11.out.next hB12
  have HO12 : Hid (DOwn w12 w11.heap.size w11.heap.size n F) := hO12
  clear hB12 HS11 hO12
  go_wp2_with fail
  refine (Hy.out _ w12 HO12.out).mono ?_
  rintro e w13 ⟨a2, cap2, rfl, hS13, hB13⟩
  have HS13 : Hid (ListKeep w w13 w3.heap.size am a' m cap' G (fun j => 1 + j)) := HS12.out.next hB13
  have HN13 : Hid (Came w13 a2 m G) := hS13.came
  clear hB13 HS12 hS13 HO12
  go_wp2_with fail
  refine (eqIntS_same _ _ m _ _ G w13 HN13.out HS13.out.2.1 hm).mono ?_
  rintro e w14 ⟨rfl, hB14⟩
  have HS14 : Hid (ListKeep w w14 w3.heap.size am a' m cap' G (fun j => 1 + j)) := HS13.out.next hB14
  clear hB14 HS13 HN13
  go_wp2_with fail
  refine (heldIntS_same a' m cap' 1 w14 HS14.out.2.2.2.2.2.came hm (by omega) (by omega)).mono ?_
  rintro e w15 ⟨rfl, hB15⟩
  go_wp2_with fail
  go_ret
  exact ⟨rfl, bnext HS14.out.1 hB15⟩

theorem FnExactRunsBack_big (a : Option Addr) (n cap : Nat) (z : Int) (w : World) (h : ¬ (n : Int) ≤ 1048576) (hl : n ≤ maxLen) :
    Calls Try.prog 5 #[.slice a n cap, .int .i64 z] w fun e w' => e = .returned (.bool true) ∧ Below w.heap.size w w' := by
  unfold maxLen at hl
  go_enter Try.func5, Try.ntmps5
  go_wp2_with fail
  refine (szRunS_any a n cap 1048576 w (by omega) (by omega) (by omega)).mono ?_
  rintro e w0 ⟨rfl, rfl⟩
  rw [if_neg (by omega)]
  go_wp2_with fail
  go_ret
  exact ⟨rfl, Below.refl _ _⟩

end Go.Proofs.Ytjdfmbdcfdafjaa
