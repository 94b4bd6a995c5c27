/-
  The walk of the law FnExactCostOf, over what the program's CostOf answers.
-/
import Derived.Test.YtbfjgkoohdknnacRows
import Derived.Test.YtbfjgkoohdknnacBase
import Derived.Test.YtbfjgkoohdknnacOwnLib
import Derived.Test.YtbfjgkoohdknnacRowLib
import Derived.Test.YtbfjgkoohdknnacIntsLib
import Derived.Test.YtbfjgkoohdknnacIntsWalks
import Derived.Test.YtbfjgkoohdknnacCodeMath
import Derived.Test.YtbfjgkoohdknnacCostSpec
import Derived.Test.YtbfjgkoohdknnacCostAns
import Derived.WalkKit
import Derived.ProofKit
import Derived.OpenShut
import Derived.Below
import Derived.Lib.SmallJoins
namespace Go.Proofs.Ytbfjgkoohdknnac
open Go.RowKit Go.Joins CodeMath

set_option maxHeartbeats 800000 in
theorem FnExactCostOf_at (hA : CostAnswer) (a1 a2 : Option Addr) (n m c1 c2 : Nat) (f c : Nat → Int) (w : World) (h1 : Came w a1 n f) (h2 : Came w a2 m c) (hn : (n : Int) ≤ 1048576) (hm : (m : Int) ≤ 1048576) (hf : ∀ i, i < n → (Lit.int .i64 (f i)).wf = true) (hc : ∀ i, i < m → (Lit.int .i64 (c i)).wf = true) :
    Calls Try.prog 3 #[.slice a1 n c1, .slice a2 m c2] w fun e w' => e = .returned (.bool true) ∧ Below w.heap.size w w' := by
  have HA : Hid CostAnswer := hA
  have H1 : Hid (Came w a1 n f) := h1
  have H2 : Hid (Came w a2 m c) := h2
  have HF : Hid (∀ i, i < n → (Lit.int .i64 (f i)).wf = true) := hf
  have HG : Hid (∀ i, i < m → (Lit.int .i64 (c i)).wf = true) := hc
  clear hA h1 h2 hf hc
  go_enter Try.func3, Try.ntmps3
  go_wp2_with fail
  refine (toIntS_any a1 n c1 f w H1.out (by omega)).mono ?_
  rintro e w1 ⟨rfl, hO1, hB1⟩
  go_wp2_with fail
  refine (toIntS_any a2 m c2 c w1 (H2.out.called hB1) (by omega)).mono ?_
  rintro e w2 ⟨rfl, hO2, hB2⟩
  have hO12 := hO1.called hB2
  have hB12 := bnext hB1 hB2
  go_wp2_with fail
  refine (specCost _ _ n m n m f c w2 hO12.came hO2.came (by omega) (by omega) HG.out).mono ?_
  rintro e w3 ⟨x, b, rfl, hS, hB3⟩
  have HS : Hid (CostSays f c n m x b) := hS
  have HB3 : Hid (Below w.heap.size w w3) := bnext hB12 hB3
  have hbb : (b != b) = false := bne_self_eq_false b
  clear hO1 hB1 hO2 hB2 hO12 hB12 hS hB3
  go_wp2_with fail
  refine (toIntS_any a1 n c1 f w3 (H1.out.called HB3.out) (by omega)).mono ?_
  rintro e w4 ⟨rfl, hO4, hB4⟩
  have HB4 : Hid (Below w.heap.size w w4) := bnext HB3.out hB4
  have HO4 : Hid (IOwn w4 w3.heap.size w3.heap.size n n f) := hO4
  clear hO4 hB4
  go_wp2_with fail
  refine (toIntS_any a2 m c2 c w4 (H2.out.called HB4.out) (by omega)).mono ?_
  rintro e w5 ⟨rfl, hO5, hB5⟩
  have HB5 : Hid (Below w.heap.size w w5) := bnext HB4.out hB5
  have HO5 : Hid (IOwn w5 w4.heap.size w4.heap.size m m c) := hO5
  have HP5 : Hid (IOwn w5 w3.heap.size w3.heap.size n n f) := HO4.out.called hB5
  clear hO5 hB5 HO4 HB3 HB4
  go_wp2_with fail
  refine (HA.out _ _ n m n m f c w5 HP5.out.came HO5.out.came (by omega) (by omega) HF.out HG.out).mono ?_
  rintro e w6 ⟨x', b', rfl, hS', hB6⟩
  obtain ⟨rfl, rfl⟩ := cost_one HS.out hS'
  have HB6 : Hid (Below w.heap.size w w6) := bnext HB5.out hB6
  have HO6 : Hid (IOwn w6 w4.heap.size w4.heap.size m m c) := HO5.out.called hB6
  have HP6 : Hid (IOwn w6 w3.heap.size w3.heap.size n n f) := HP5.out.called hB6
  clear hB6 hS' HO5 HP5 HB5
  go_wp2_with fail
  refine (toIntS_any a1 n c1 f w6 (H1.out.called HB6.out) (by omega)).mono ?_
  rintro e w7 ⟨rfl, hO7, hB7⟩
  have HB7 : Hid (Below w.heap.size w w7) := bnext HB6.out hB7
  have HO7 : Hid (IOwn w7 w4.heap.size w4.heap.size m m c) := HO6.out.called hB7
  have HP7 : Hid (IOwn w7 w3.heap.size w3.heap.size n n f) := HP6.out.called hB7
  have HQ7 : Hid (IOwn w7 w6.heap.size w6.heap.size n n f) := hO7
  clear hO7 hB7 HB6 HO6 HP6
  go_wp2_with fail
  refine (eqIntS_same _ _ n _ _ f w7 HP7.out.came HQ7.out.came (by omega)).mono ?_
  rintro e w8 ⟨rfl, hB8⟩
  have HB8 : Hid (Below w.heap.size w w8) := bnext HB7.out hB8
  have HO8 : Hid (IOwn w8 w4.heap.size w4.heap.size m m c) := HO7.out.called hB8
  clear hB8 HB7 HO7 HP7 HQ7
  go_wp2_with fail
  refine (toIntS_any a2 m c2 c w8 (H2.out.called HB8.out) (by omega)).mono ?_
  rintro e w9 ⟨rfl, hO9, hB9⟩
  have HB9 : Hid (Below w.heap.size w w9) := bnext HB8.out hB9
  have HO9 : Hid (IOwn w9 w4.heap.size w4.heap.size m m c) := HO8.out.called hB9
  have HQ9 : Hid (IOwn w9 w8.heap.size w8.heap.size m m c) := hO9
  clear hO9 hB9 HB8 HO8
  go_wp2_with fail
  refine (eqIntS_same _ _ m _ _ c w9 HO9.out.came HQ9.out.came (by omega)).mono ?_
  rintro e w10 ⟨rfl, hB10⟩
  go_wp2_with fail
  go_ret
  exact ⟨rfl, bnext HB9.out hB10⟩

theorem FnExactCostOf_over (hA : CostAnswer) (a1 : Option Addr) (n c1 : Nat) (zs : List Int) (a2 : Option Addr) (m c2 : Nat) (ys : List Int) (w : World) (hr1 : IsRow .i64 w a1 n c1 zs) (hr2 : IsRow .i64 w a2 m c2 ys) :
    Calls Try.prog 3 #[.slice a1 n c1, .slice a2 m c2] w fun e w' => e = .returned (.bool true) ∧ Below w.heap.size w w' := by
  obtain ⟨hC1, hl1, hf1⟩ := came_of_row hr1
  obtain ⟨hC2, hl2, hf2⟩ := came_of_row hr2
  unfold maxLen at hl1 hl2
  by_cases h1 : (n : Int) ≤ 1048576
  · by_cases h2 : (m : Int) ≤ 1048576
    · exact FnExactCostOf_at hA a1 a2 n m c1 c2 _ _ w hC1 hC2 h1 h2 hf1 hf2
    · have d : (1048576 : Int) < m := by omega
      clear hr1 hC1 hA hf1 hr2 hC2 hf2
      go_enter Try.func3, Try.ntmps3
      go_wp2_with fail
      go_ret
      exact ⟨rfl, Below.refl _ _⟩
  · have d : (1048576 : Int) < n := by omega
    clear hr1 hC1 hA hf1 hr2 hC2 hf2
    go_enter Try.func3, Try.ntmps3
    go_wp2_with fail
    go_ret
    exact ⟨rfl, Below.refl _ _⟩

end Go.Proofs.Ytbfjgkoohdknnac
