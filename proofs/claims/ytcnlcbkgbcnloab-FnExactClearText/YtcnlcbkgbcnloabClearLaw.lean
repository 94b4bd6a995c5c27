/-
  The law FnExactClearText over what the model and the program answer.
-/
import Derived.Test.YtcnlcbkgbcnloabRows
import Derived.Test.YtcnlcbkgbcnloabBase
import Derived.Test.YtcnlcbkgbcnloabOwnLib
import Derived.Test.YtcnlcbkgbcnloabRowLib
import Derived.Test.YtcnlcbkgbcnloabIntsLib
import Derived.Test.YtcnlcbkgbcnloabIntsWalks
import Derived.Test.YtcnlcbkgbcnloabHeadMath
import Derived.Test.YtcnlcbkgbcnloabHeadTo
import Derived.Test.YtcnlcbkgbcnloabHeadLaw
import Derived.Test.YtcnlcbkgbcnloabClearMath
import Derived.WalkKit
import Derived.ProofKit
import Derived.OpenShut
import Derived.Below
import Derived.Lib.SmallJoins
namespace Go.Proofs.Ytcnlcbkgbcnloab
open Go.RowKit Go.Joins HeadMath

set_option maxHeartbeats 3200000 in
theorem FnExactClearText_at (x y d c table : Int) (l : Bool) (a : Option Addr) (n cap : Nat) (f : Nat → Int) (T : ByteArray) (b : Bool) (w : World) (hC : Came w a n f) (hn : n ≤ 1048576)
    (hx : ∀ (a : Option Addr) (cap : Nat) (w : World), Came w a n f → Calls Try.prog 11 #[.agg #[.int .i64 x, .int .i64 y, .int .i64 d, .int .i64 c, .bool l], .int .i64 table, .slice a n cap] w fun e w' => e = .returned (.tuple #[.string T, .bool b]) ∧ Below w.heap.size w w')
    (hy : ∀ (a : Option Addr) (cap : Nat) (w : World), Came w a n f → Calls Try.prog 12 #[.agg #[.int .i64 x, .int .i64 y, .int .i64 d, .int .i64 c, .bool l], .int .i64 table, .slice a n cap] w fun e w' => e = .returned (.tuple #[.string T, .bool b]) ∧ Below w.heap.size w w') :
    Calls Try.prog 4 #[.agg #[.int .i64 x, .int .i64 y, .int .i64 d, .int .i64 c, .bool l], .int .i64 table, .slice a n cap] w fun e w' => e = .returned (.bool true) ∧ Below w.heap.size w w' := by
  have Hx := hid_of hx
  have Hy := hid_of hy
  have HC := hid_of hC
  have ht := toHead_any x y d c l
  have hbb : (b != b) = false := bne_self_eq_false b
  have dl : decide ((1048576 : Int) < (n : Int)) = false := decide_eq_false (by omega)
  have dl2 : decide (1048576 < n) = false := decide_eq_false (by omega)
  have HX : Hid ((w.alloc (.cells #[.int .i64 x, .int .i64 y, .int .i64 d, .int .i64 c, .bool l] 23)).heap[w.heap.size]? = some (.cells #[.int .i64 x, .int .i64 y, .int .i64 d, .int .i64 c, .bool l] 23 (0, 0))) := heap_alloc_new w _
  have HB := hid_of (bstart w (.cells #[.int .i64 x, .int .i64 y, .int .i64 d, .int .i64 c, .bool l] 23))
  clear hx hy hC
  go_enter Try.func4, Try.ntmps4
  go_wp2_with fail
  refine (ht _).mono ?_
  rintro e w0 ⟨rfl, hB0⟩
  have HX0 := hid_of ((hB0.block _ (block_lt HX.out)).trans HX.out)
  have HB0 := hid_of (bnext HB.out hB0)
  clear hB0 HX HB
  go_wp2_with fail
  refine (toIntS_any a n cap f w0 (HC.out.called HB0.out) hn).mono ?_
  rintro e w1 ⟨rfl, hO1, hB1⟩
  have HX1 := hid_of ((hB1.block _ (block_lt HX0.out)).trans HX0.out)
  have HO1 := hid_of hO1
  have HB1 := hid_of (bnext HB0.out hB1)
  clear hO1 hB1 HX0 HB0
  go_wp2_with fail
  refine (Hx.out _ n w1 HO1.out.came).mono ?_
  rintro e w2 ⟨rfl, hB2⟩
  have HX2 := hid_of ((hB2.block _ (block_lt HX1.out)).trans HX1.out)
  have HB2 := hid_of (bnext HB1.out hB2)
  clear hB2 HB1 HO1 HX1
  go_wp2_with fail
  refine (toIntS_any a n cap f w2 (HC.out.called HB2.out) hn).mono ?_
  rintro e w3 ⟨rfl, hO3, hB3⟩
  have HX3 := hid_of ((hB3.block _ (block_lt HX2.out)).trans HX2.out)
  have HO3 := hid_of hO3
  have HB3 := hid_of (bnext HB2.out hB3)
  clear hO3 hB3 HB2 HX2
  obtain ⟨k0, k1, k2, k3, k4⟩ := law_cells HX3.out
  have lx := block_lt HX3.out
  go_wp2_with fail
  refine (ht _).mono ?_
  rintro e w4 ⟨rfl, hB4⟩
  have HO4 := hid_of (HO3.out.called hB4)
  have HB4 := hid_of (bnext HB3.out hB4)
  clear hB4 HO3 HB3 HX3 k0 k1 k2 k3 k4 lx
  go_wp2_with fail
  refine (Hy.out _ n w4 HO4.out.came).mono ?_
  rintro e w5 ⟨rfl, hB5⟩
  have HO5 := hid_of (HO4.out.called hB5)
  have HB5 := hid_of (bnext HB4.out hB5)
  clear hB5 HO4 HB4
  go_wp2_with fail
  refine (toIntS_any a n cap f w5 (HC.out.called HB5.out) hn).mono ?_
  rintro e w6 ⟨rfl, hO6, hB6⟩
  have HX6 := hid_of (HO5.out.called hB6)
  have HO6 := hid_of hO6
  have HB6 := hid_of (bnext HB5.out hB6)
  clear hO6 hB6 HB5 HO5
  go_wp2_with fail
  refine (eqIntS_same _ _ n _ _ f w6 HX6.out.came HO6.out.came hn).mono ?_
  rintro e w7 ⟨rfl, hB7⟩
  have HB7 := hid_of (bnext HB6.out hB7)
  clear hB7 HB6 HX6 HO6
  go_wp2_with fail
  go_ret
  exact ⟨rfl, HB7.out⟩
theorem FnExactClearText_big (x y d c table : Int) (l : Bool) (a : Option Addr) (n cap : Nat) (w : World) (h : ¬ n ≤ 1048576) (hl : n ≤ maxLen) :
    Calls Try.prog 4 #[.agg #[.int .i64 x, .int .i64 y, .int .i64 d, .int .i64 c, .bool l], .int .i64 table, .slice a n cap] w fun e w' => e = .returned (.bool true) ∧ Below w.heap.size w w' := by
  unfold maxLen at hl
  have dl : (1048576 : Int) < n := by omega
  have HB := hid_of (bstart w (.cells #[.int .i64 x, .int .i64 y, .int .i64 d, .int .i64 c, .bool l] 23))
  go_enter Try.func4, Try.ntmps4
  go_wp2_with fail
  go_ret
  exact ⟨rfl, HB.out⟩
theorem FnExactClearText_over
    (hx : ∀ (x y c table : Int) (l : Bool) (d : Int) (a : Option Addr) (n cap : Nat) (f : Nat → Int) (w : World), Came w a n f → n ≤ 1048576 → Calls Try.prog 11 #[.agg #[.int .i64 x, .int .i64 y, .int .i64 d, .int .i64 c, .bool l], .int .i64 table, .slice a n cap] w (ClrPost x y d c table n f w))
    (hy : ∀ (x y c table : Int) (l : Bool) (d : Int) (a : Option Addr) (n cap : Nat) (f : Nat → Int) (w : World), Came w a n f → n ≤ 1048576 → Calls Try.prog 12 #[.agg #[.int .i64 x, .int .i64 y, .int .i64 d, .int .i64 c, .bool l], .int .i64 table, .slice a n cap] w (ClrPost x y d c table n f w))
    (x y d c : Int) (l : Bool) (table : Int) (a : Option Addr) (len cap : Nat) (zs : List Int) (w : World) (_ : (Lit.int .i64 x).wf = true) (_ : (Lit.int .i64 y).wf = true) (_ : (Lit.int .i64 d).wf = true) (_ : (Lit.int .i64 c).wf = true) (_ : (Lit.int .i64 table).wf = true) (hr : IsRow .i64 w a len cap zs) :
    Calls Try.prog 4 #[.agg #[.int .i64 x, .int .i64 y, .int .i64 d, .int .i64 c, .bool l], .int .i64 table, .slice a len cap] w fun e w' => e = .returned (.bool true) ∧ Below w.heap.size w w' := by
  obtain ⟨hC, hm, _⟩ := came_of_row hr
  generalize (fun j => zs.getD j 0) = f at hC
  by_cases hn : len ≤ 1048576
  · obtain ⟨T, b, _, _, hf⟩ := clr_fix x y d c table len f
    exact FnExactClearText_at x y d c table l a len cap f T b w hC hn (fun a cap w h => (hx x y c table l d a len cap f w h hn).mono (hf w)) (fun a cap w h => (hy x y c table l d a len cap f w h hn).mono (hf w))
  · exact FnExactClearText_big x y d c table l a len cap w hn hm
end Go.Proofs.Ytcnlcbkgbcnloab
