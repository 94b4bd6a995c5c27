/-
  The walk of the law FnExactCodeKind, over what the program's CodeKind answers.
-/
import Derived.Test.YtbfjgkoohdknnabRows
import Derived.Test.YtbfjgkoohdknnabBase
import Derived.Test.YtbfjgkoohdknnabOwnLib
import Derived.Test.YtbfjgkoohdknnabIntsLib
import Derived.Test.YtbfjgkoohdknnabIntsWalks
import Derived.Test.YtbfjgkoohdknnabCodeMath
import Derived.Test.YtbfjgkoohdknnabCodeSpec
import Derived.Test.YtbfjgkoohdknnabRowLib
import Derived.Test.YtbfjgkoohdknnabKindAns
import Derived.WalkKit
import Derived.ProofKit
import Derived.OpenShut
import Derived.Below
import Derived.Lib.SmallJoins
namespace Go.Proofs.Ytbfjgkoohdknnab
open Go.RowKit Go.Joins CodeMath

set_option maxHeartbeats 800000 in
theorem FnExactCodeKind_at (hA : KindAnswer) (a : Option Addr) (n cap : Nat) (f : Nat → Int) (w : World) (hC : Came w a n f) (hn : (n : Int) ≤ 1048576) (hf : ∀ i, i < n → (Lit.int .i64 (f i)).wf = true) :
    Calls Try.prog 4 #[.slice a n cap] w fun e w' => e = .returned (.bool true) ∧ Below w.heap.size w w' := by
  have HA : Hid KindAnswer := hA
  have HC : Hid (Came w a n f) := hC
  have HF : Hid (∀ i, i < n → (Lit.int .i64 (f i)).wf = true) := hf
  clear hA hC hf
  go_enter Try.func4, Try.ntmps4
  go_wp2_with fail
  refine (toIntS_any a n cap f w HC.out (by omega)).mono ?_
  rintro e w1 ⟨rfl, hO1, hB1⟩
  have HB1 : Hid (Below w.heap.size w w1) := hB1
  have HO1 : Hid (IOwn w1 w.heap.size w.heap.size n n f) := hO1
  clear hO1 hB1
  go_wp2_with fail
  refine (specKind _ n n f w1 HO1.out.came (by omega)).mono ?_
  rintro e w2 ⟨k, rfl, hk, hw⟩
  obtain rfl : w1 = w2 := hw.symm
  have HK : Hid (Kind f n k) := hk
  have hkb := kind_bd hk
  clear hk hw
  go_wp2_with fail
  refine (toIntS_any a n cap f w1 (HC.out.called HB1.out) (by omega)).mono ?_
  rintro e w2 ⟨rfl, hO2, hB2⟩
  have HB2 : Hid (Below w.heap.size w w2) := bnext HB1.out hB2
  have HO2 : Hid (IOwn w2 w1.heap.size w1.heap.size n n f) := hO2
  clear hO2 hB2 HO1 HB1
  go_wp2_with fail
  refine (HA.out _ n n f w2 HO2.out.came (by omega) HF.out).mono ?_
  rintro e w3 ⟨k', rfl, hk', hB3⟩
  obtain rfl : k' = k := kind_one hk' HK.out
  have HB3 : Hid (Below w.heap.size w w3) := bnext HB2.out hB3
  have HO3 : Hid (IOwn w3 w1.heap.size w1.heap.size n n f) := HO2.out.called hB3
  clear hk' hB3 HO2 HB2
  go_wp2_with fail
  refine (toIntS_any a n cap f w3 (HC.out.called HB3.out) (by omega)).mono ?_
  rintro e w4 ⟨rfl, hO4, hB4⟩
  have HB4 : Hid (Below w.heap.size w w4) := bnext HB3.out hB4
  have HO4 : Hid (IOwn w4 w3.heap.size w3.heap.size n n f) := hO4
  have HO5 : Hid (IOwn w4 w1.heap.size w1.heap.size n n f) := HO3.out.called hB4
  clear hO4 hB4 HO3 HB3
  go_wp2_with fail
  refine (eqIntS_same _ _ n n n f w4 HO5.out.came HO4.out.came (by omega)).mono ?_
  rintro e w5 ⟨rfl, hB5⟩
  go_wp2_with fail
  go_ret
  exact ⟨rfl, bnext HB4.out hB5⟩

theorem FnExactCodeKind_over (hA : KindAnswer) (a : Option Addr) (len cap : Nat) (zs : List Int) (w : World) (hr : IsRow .i64 w a len cap zs) :
    Calls Try.prog 4 #[.slice a len cap] w fun e w' => e = .returned (.bool true) ∧ Below w.heap.size w w' := by
  obtain ⟨hC, hl, hf⟩ := came_of_row hr
  unfold maxLen at hl
  by_cases h : (len : Int) ≤ 1048576
  · exact FnExactCodeKind_at hA a len cap _ w hC h hf
  · have d : (1048576 : Int) < len := by omega
    clear hr hC hA hf
    go_enter Try.func4, Try.ntmps4
    go_wp2_with fail
    go_ret
    exact ⟨rfl, Below.refl _ _⟩

end Go.Proofs.Ytbfjgkoohdknnab
