/-
  The law FnExactUnpackRow over what the model and the program answer.
-/
import Derived.Test.YtholkigomokimaaRows
import Derived.Test.YtholkigomokimaaBase
import Derived.Test.YtholkigomokimaaOwnLib
import Derived.Test.YtholkigomokimaaRowLib
import Derived.Test.YtholkigomokimaaIntsLib
import Derived.Test.YtholkigomokimaaIntsWalks
import Derived.Test.YtholkigomokimaaMarkWalks
import Derived.Test.YtholkigomokimaaKeepLib
import Derived.WalkKit
import Derived.ProofKit
import Derived.OpenShut
import Derived.Below
import Derived.Lib.SmallJoins
namespace Go.Proofs.Ytholkigomokimaa
open Go.RowKit Go.Joins

set_option maxHeartbeats 1600000 in
theorem FnExactUnpackRow_at (s : ByteArray) (c d : Int) (m : Nat) (F : Nat → Int) (b : Bool) (w : World) (hs : s.size ≤ 1048576) (hm : m ≤ 1048576)
    (hx : ∀ (w : World), Calls Try.prog 25 #[.string s, .int .i64 c, .int .i64 d] w fun e w' => ∃ (am : Option Addr) (cap' : Nat), e = .returned (.tuple #[.slice am m cap', .bool b]) ∧ Came w' am m F ∧ (∀ g off, am = some ⟨g, off, none⟩ → g < w'.heap.size) ∧ Below w.heap.size w w')
    (hy : ∀ (w : World), Calls Try.prog 15 #[.string s, .int .i64 c, .int .i64 d] w fun e w' => ∃ (a' : Option Addr) (cap' : Nat), e = .returned (.tuple #[.slice a' m cap', .bool b]) ∧ SL w' w.heap.size a' m cap' F ∧ Below w.heap.size w w') :
    Calls Try.prog 6 #[.string s, .int .i64 c, .int .i64 d] w fun e w' => e = .returned (.bool true) ∧ Below w.heap.size w w' := by
  have Hx := hid_of hx
  have Hy := hid_of hy
  have hbb : (b != b) = false := bne_self_eq_false b
  have dl : decide ((1048576 : Int) < (s.size : Int)) = false := decide_eq_false (by omega)
  clear hx hy
  go_enter Try.func6, Try.ntmps6
  go_wp2_with fail
  refine (Hx.out w).mono ?_
  rintro e w3 ⟨am, cs, rfl, hW0, hz2', hB2⟩
  have hz2 := hid_of hz2'
  have HB2 := hid_of hB2
  have HW0 := hid_of hW0
  clear hz2' hB2 hW0
  go_wp2_with fail
  refine (Hy.out w3).mono ?_
  rintro e w4 ⟨a', cap', rfl, hS4, hB4⟩
  have s2 := HB2.out.size
  have s4 := hB4.size
  have HS4 : Hid (ListKeep w w4 w3.heap.size am a' m cap' F F) := ⟨bnext HB2.out hB4, HW0.out.called hB4, hz2.out, s4, s2, hS4⟩
  clear hS4 hB4 HB2 HW0 s2 s4
  go_wp2_with fail
  refine (eqIntS_same _ _ m _ _ F w4 HS4.out.2.2.2.2.2.came HS4.out.2.1 hm).mono ?_
  rintro e w9 ⟨rfl, hB5⟩
  have HS9 : Hid (ListKeep w w9 w3.heap.size am a' m cap' F F) := HS4.out.next hB5
  clear hB5 HS4
  go_wp2_with fail
  refine (markIntS_sl _ a' m cap' F 1 w9 HS9.out.2.2.2.2.2 hm (by omega) (by omega)).mono ?_
  rintro e w10 ⟨rfl, hS10, row, hrow, hG10⟩
  have HS10 : Hid (ListKeep w w10 w3.heap.size am a' m cap' F (fun j => 1 + j)) := by
    obtain ⟨k1, k2, k3, k4, k5, k6⟩ := HS9.out
    exact ⟨k1.grown hG10 (by omega) (fun k hk => by have := hrow k hk; omega), k2.grown (B := w3.heap.size) k3 hrow hG10, k3, Nat.le_trans k4 hG10.size, k5, hS10⟩
  clear hS10 hrow hG10 HS9
  go_wp2_with fail
  refine (heldIntS_same a' m cap' 1 w10 HS10.out.2.2.2.2.2.came hm (by omega) (by omega)).mono ?_
  rintro e w11 ⟨rfl, hB11⟩
  have HS11 : Hid (ListKeep w w11 w3.heap.size am a' m cap' F (fun j => 1 + j)) := HS10.out.next hB11
  clear hB11 HS10
  go_wp2_with fail
  refine (Hy.out w11).mono ?_
  rintro e w13 ⟨a2, cap2, rfl, hS13, hB13⟩
  have HS13 : Hid (ListKeep w w13 w3.heap.size am a' m cap' F (fun j => 1 + j)) := HS11.out.next hB13
  have HN13 : Hid (Came w13 a2 m F) := hS13.came
  clear hB13 HS11 hS13
  go_wp2_with fail
  refine (eqIntS_same _ _ m _ _ F w13 HN13.out HS13.out.2.1 hm).mono ?_
  rintro e w14 ⟨rfl, hB14⟩
  have HS14 : Hid (ListKeep w w14 w3.heap.size am a' m cap' F (fun j => 1 + j)) := HS13.out.next hB14
  clear hB14 HS13 HN13
  go_wp2_with fail
  refine (heldIntS_same a' m cap' 1 w14 HS14.out.2.2.2.2.2.came hm (by omega) (by omega)).mono ?_
  rintro e w15 ⟨rfl, hB15⟩
  go_wp2_with fail
  go_ret
  exact ⟨rfl, bnext HS14.out.1 hB15⟩
theorem FnExactUnpackRow_big (s : ByteArray) (c d : Int) (w : World) (h : ¬ s.size ≤ 1048576) (hl : s.size ≤ maxLen) :
    Calls Try.prog 6 #[.string s, .int .i64 c, .int .i64 d] w fun e w' => e = .returned (.bool true) ∧ Below w.heap.size w w' := by
  unfold maxLen at hl
  have d : (1048576 : Int) < s.size := by omega
  go_enter Try.func6, Try.ntmps6
  go_wp2_with fail
  go_ret
  exact ⟨rfl, Below.refl _ _⟩

end Go.Proofs.Ytholkigomokimaa
