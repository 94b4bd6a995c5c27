/-
  What the program's filters are to answer, and the exact laws over that.
-/
import Derived.Test.YtholkigomokimaaRows
import Derived.Test.YtholkigomokimaaBase
import Derived.Test.YtholkigomokimaaFiltMath
import Derived.Test.YtholkigomokimaaFiltVal
import Derived.Test.YtholkigomokimaaFiltAns
import Derived.Test.YtholkigomokimaaFiltSpec
import Derived.Test.YtholkigomokimaaFiltBest
import Derived.WalkKit
import Derived.ProofKit
import Derived.WalkLawsBesides
import Derived.Below
import Derived.Lib.SmallJoins
namespace Go.Proofs.Ytholkigomokimaa
open Go.RowKit Go.Joins TakeMath FiltMath

theorem FnExactFilterRow_at (k : Int) (row above : ByteArray) (unit : Int) (T : ByteArray) (b : Bool) (w : World) (h1 : row.size ≤ 1048576) (h2 : above.size ≤ 1048576)
    (hm : ∀ w : World, Calls Try.prog 18 #[.int .i64 k, .string row, .string above, .int .i64 unit] w fun e w' => e = .returned (.tuple #[.string T, .bool b]) ∧ Below w.heap.size w w')
    (ha : ∀ w : World, Calls Try.prog 20 #[.int .i64 k, .string row, .string above, .int .i64 unit] w fun e w' => e = .returned (.tuple #[.string T, .bool b]) ∧ Below w.heap.size w w') :
    Calls Try.prog 7 #[.int .i64 k, .string row, .string above, .int .i64 unit] w fun e w' => e = .returned (.bool true) ∧ Below w.heap.size w w' := by
  have hbb : (b != b) = false := bne_self_eq_false b
  have d1 : decide ((1048576 : Int) < (row.size : Int)) = false := decide_eq_false (by omega)
  have d2 : decide ((1048576 : Int) < (above.size : Int)) = false := decide_eq_false (by omega)
  go_enter Try.func7, Try.ntmps7
  go_wp2_with fail
  refine (hm _).mono ?_
  rintro e w1 ⟨rfl, hB1⟩
  have HB1 := hid_of hB1
  clear hB1
  go_wp2_with fail
  refine (ha _).mono ?_
  rintro e w2 ⟨rfl, hB2⟩
  have HB2 := hid_of (bnext HB1.out hB2)
  clear hB2
  go_wp2_with fail
  go_ret
  exact ⟨rfl, HB2.out⟩
theorem FnExactFilterRow_big (k : Int) (row above : ByteArray) (unit : Int) (w : World) (h : ¬ (row.size ≤ 1048576 ∧ above.size ≤ 1048576)) (f1 : row.size ≤ maxLen) (f2 : above.size ≤ maxLen) :
    Calls Try.prog 7 #[.int .i64 k, .string row, .string above, .int .i64 unit] w fun e w' => e = .returned (.bool true) ∧ Below w.heap.size w w' := by
  unfold maxLen at f1 f2
  by_cases h1 : row.size ≤ 1048576
  · have h2 : ¬ above.size ≤ 1048576 := fun q => h ⟨h1, q⟩
    have d1 : decide ((1048576 : Int) < (row.size : Int)) = false := decide_eq_false (by omega)
    have d2 : decide ((1048576 : Int) < (above.size : Int)) = true := decide_eq_true (by omega)
    clear h
    go_enter Try.func7, Try.ntmps7
    go_wp2_with fail
    go_ret
    exact ⟨rfl, Below.refl _ _⟩
  · have d1 : decide ((1048576 : Int) < (row.size : Int)) = true := decide_eq_true (by omega)
    clear h
    go_enter Try.func7, Try.ntmps7
    go_wp2_with fail
    go_ret
    exact ⟨rfl, Below.refl _ _⟩
theorem FnExactFilterRow_over (hA : FilterAnswer) (k : Int) (row above : ByteArray) (unit : Int) (w : World) (f0 : (Lit.int .i64 k).wf = true) (f1 : row.size ≤ maxLen) (f2 : above.size ≤ maxLen) (f3 : (Lit.int .i64 unit).wf = true) :
    Calls Try.prog 7 #[.int .i64 k, .string row, .string above, .int .i64 unit] w fun e w' => e = .returned (.bool true) ∧ Below w.heap.size w w' := by
  by_cases h : row.size ≤ 1048576 ∧ above.size ≤ 1048576
  · exact FnExactFilterRow_at k row above unit _ _ w h.1 h.2 (fun W => specFilter k row above unit W h.1) (fun W => hA k row above unit W f0 f3 h.1 h.2)
  · exact FnExactFilterRow_big k row above unit w h f1 f2
theorem FnExactUnfilterRow_at (k : Int) (row above : ByteArray) (unit : Int) (T : ByteArray) (b : Bool) (w : World) (h1 : row.size ≤ 1048576) (h2 : above.size ≤ 1048576)
    (hm : ∀ w : World, Calls Try.prog 28 #[.int .i64 k, .string row, .string above, .int .i64 unit] w fun e w' => e = .returned (.tuple #[.string T, .bool b]) ∧ Below w.heap.size w w')
    (ha : ∀ w : World, Calls Try.prog 21 #[.int .i64 k, .string row, .string above, .int .i64 unit] w fun e w' => e = .returned (.tuple #[.string T, .bool b]) ∧ Below w.heap.size w w') :
    Calls Try.prog 8 #[.int .i64 k, .string row, .string above, .int .i64 unit] w fun e w' => e = .returned (.bool true) ∧ Below w.heap.size w w' := by
  have hbb : (b != b) = false := bne_self_eq_false b
  have d1 : decide ((1048576 : Int) < (row.size : Int)) = false := decide_eq_false (by omega)
  have d2 : decide ((1048576 : Int) < (above.size : Int)) = false := decide_eq_false (by omega)
  go_enter Try.func8, Try.ntmps8
  go_wp2_with fail
  refine (hm _).mono ?_
  rintro e w1 ⟨rfl, hB1⟩
  have HB1 := hid_of hB1
  clear hB1
  go_wp2_with fail
  refine (ha _).mono ?_
  rintro e w2 ⟨rfl, hB2⟩
  have HB2 := hid_of (bnext HB1.out hB2)
  clear hB2
  go_wp2_with fail
  go_ret
  exact ⟨rfl, HB2.out⟩
theorem FnExactUnfilterRow_big (k : Int) (row above : ByteArray) (unit : Int) (w : World) (h : ¬ (row.size ≤ 1048576 ∧ above.size ≤ 1048576)) (f1 : row.size ≤ maxLen) (f2 : above.size ≤ maxLen) :
    Calls Try.prog 8 #[.int .i64 k, .string row, .string above, .int .i64 unit] w fun e w' => e = .returned (.bool true) ∧ Below w.heap.size w w' := by
  unfold maxLen at f1 f2
  by_cases h1 : row.size ≤ 1048576
  · have h2 : ¬ above.size ≤ 1048576 := fun q => h ⟨h1, q⟩
    have d1 : decide ((1048576 : Int) < (row.size : Int)) = false := decide_eq_false (by omega)
    have d2 : decide ((1048576 : Int) < (above.size : Int)) = true := decide_eq_true (by omega)
    clear h
    go_enter Try.func8, Try.ntmps8
    go_wp2_with fail
    go_ret
    exact ⟨rfl, Below.refl _ _⟩
  · have d1 : decide ((1048576 : Int) < (row.size : Int)) = true := decide_eq_true (by omega)
    clear h
    go_enter Try.func8, Try.ntmps8
    go_wp2_with fail
    go_ret
    exact ⟨rfl, Below.refl _ _⟩
theorem FnExactUnfilterRow_over (hA : UnfilterAnswer) (k : Int) (row above : ByteArray) (unit : Int) (w : World) (f0 : (Lit.int .i64 k).wf = true) (f1 : row.size ≤ maxLen) (f2 : above.size ≤ maxLen) (f3 : (Lit.int .i64 unit).wf = true) :
    Calls Try.prog 8 #[.int .i64 k, .string row, .string above, .int .i64 unit] w fun e w' => e = .returned (.bool true) ∧ Below w.heap.size w w' := by
  by_cases h : row.size ≤ 1048576 ∧ above.size ≤ 1048576
  · exact FnExactUnfilterRow_at k row above unit _ _ w h.1 h.2 (fun W => specUnfilter k row above unit W h.1) (fun W => hA k row above unit W f0 f3 h.1 h.2)
  · exact FnExactUnfilterRow_big k row above unit w h f1 f2
theorem FnExactRowWeight_over (hA : WeightAnswer) (s : ByteArray) (w : World) (f0 : s.size ≤ maxLen) : Calls Try.prog 9 #[.string s] w fun e w' => e = .returned (.bool true) ∧ Below w.heap.size w w' := by
  by_cases hs : s.size ≤ 1048576
  · have hm := fun W => specWeight s W hs
    have ha := fun W => hA s W hs
    have d1 : decide ((1048576 : Int) < (s.size : Int)) = false := decide_eq_false (by omega)
    generalize weight s = n at hm ha
    clear hA
    go_enter Try.func9, Try.ntmps9
    go_wp2_with fail
    refine (hm _).mono ?_
    rintro e w1 ⟨rfl, rfl⟩
    go_wp2_with fail
    refine (ha _).mono ?_
    rintro e w2 ⟨rfl, hB⟩
    have HB := hid_of hB
    clear hB
    go_wp2_with fail
    go_ret
    exact ⟨rfl, HB.out⟩
  · have d1 : decide ((1048576 : Int) < (s.size : Int)) = true := decide_eq_true (by omega)
    have g0 := f0
    unfold maxLen at g0
    go_enter Try.func9, Try.ntmps9
    go_wp2_with fail
    go_ret
    exact ⟨rfl, Below.refl _ _⟩
theorem FnExactBestFilter_at (row above : ByteArray) (unit : Int) (T : Int) (b : Bool) (w : World) (h1 : row.size ≤ 1048576) (h2 : above.size ≤ 1048576)
    (hm : ∀ w : World, Calls Try.prog 30 #[.string row, .string above, .int .i64 unit] w fun e w' => e = .returned (.tuple #[.int .i64 T, .bool b]) ∧ Below w.heap.size w w')
    (ha : ∀ w : World, Calls Try.prog 19 #[.string row, .string above, .int .i64 unit] w fun e w' => e = .returned (.tuple #[.int .i64 T, .bool b]) ∧ Below w.heap.size w w') :
    Calls Try.prog 10 #[.string row, .string above, .int .i64 unit] w fun e w' => e = .returned (.bool true) ∧ Below w.heap.size w w' := by
  have hbb : (b != b) = false := bne_self_eq_false b
  have d1 : decide ((1048576 : Int) < (row.size : Int)) = false := decide_eq_false (by omega)
  have d2 : decide ((1048576 : Int) < (above.size : Int)) = false := decide_eq_false (by omega)
  go_enter Try.func10, Try.ntmps10
  go_wp2_with fail
  refine (hm _).mono ?_
  rintro e w1 ⟨rfl, hB1⟩
  have HB1 := hid_of hB1
  clear hB1
  go_wp2_with fail
  refine (ha _).mono ?_
  rintro e w2 ⟨rfl, hB2⟩
  have HB2 := hid_of (bnext HB1.out hB2)
  clear hB2
  go_wp2_with fail
  go_ret
  exact ⟨rfl, HB2.out⟩
theorem FnExactBestFilter_big (row above : ByteArray) (unit : Int) (w : World) (h : ¬ (row.size ≤ 1048576 ∧ above.size ≤ 1048576)) (f1 : row.size ≤ maxLen) (f2 : above.size ≤ maxLen) :
    Calls Try.prog 10 #[.string row, .string above, .int .i64 unit] w fun e w' => e = .returned (.bool true) ∧ Below w.heap.size w w' := by
  unfold maxLen at f1 f2
  by_cases h1 : row.size ≤ 1048576
  · have h2 : ¬ above.size ≤ 1048576 := fun q => h ⟨h1, q⟩
    have d1 : decide ((1048576 : Int) < (row.size : Int)) = false := decide_eq_false (by omega)
    have d2 : decide ((1048576 : Int) < (above.size : Int)) = true := decide_eq_true (by omega)
    clear h
    go_enter Try.func10, Try.ntmps10
    go_wp2_with fail
    go_ret
    exact ⟨rfl, Below.refl _ _⟩
  · have d1 : decide ((1048576 : Int) < (row.size : Int)) = true := decide_eq_true (by omega)
    clear h
    go_enter Try.func10, Try.ntmps10
    go_wp2_with fail
    go_ret
    exact ⟨rfl, Below.refl _ _⟩
theorem FnExactBestFilter_over (hA : BestFAnswer) (row above : ByteArray) (unit : Int) (w : World) (f1 : row.size ≤ maxLen) (f2 : above.size ≤ maxLen) (f3 : (Lit.int .i64 unit).wf = true) :
    Calls Try.prog 10 #[.string row, .string above, .int .i64 unit] w fun e w' => e = .returned (.bool true) ∧ Below w.heap.size w w' := by
  by_cases h : row.size ≤ 1048576 ∧ above.size ≤ 1048576
  · exact FnExactBestFilter_at row above unit _ _ w h.1 h.2 (fun W => specBestF row above unit W h.1) (fun W => hA row above unit W f3 h.1 h.2)
  · exact FnExactBestFilter_big row above unit w h f1 f2
end Go.Proofs.Ytholkigomokimaa
