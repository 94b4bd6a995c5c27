/-
  The laws FnExactHeadOk, FnExactHeadText, FnExactReadHead over what the model and the program answer.
-/
import Derived.Test.YtcnlcbkgbcnloaaRows
import Derived.Test.YtcnlcbkgbcnloaaBase
import Derived.Test.YtcnlcbkgbcnloaaRastMath
import Derived.Test.YtcnlcbkgbcnloaaHeadMath
import Derived.Test.YtcnlcbkgbcnloaaHeadAns
import Derived.Test.YtcnlcbkgbcnloaaHeadTo
import Derived.WalkKit
import Derived.ProofKit
import Derived.WalkLawsBesides
import Derived.BigQuiet
import Derived.Deep.RegionHeld3
import Derived.Below
import Derived.Lib.SmallJoins
namespace Go.Proofs.Ytcnlcbkgbcnloaa
open Go.RowKit Go.Joins RastMath HeadMath

theorem law_cells {w : World} {b : Nat} {x y d c : Int} {l : Bool} (h : w.heap[b]? = some (.cells #[.int .i64 x, .int .i64 y, .int .i64 d, .int .i64 c, .bool l] 46 (0, 0))) : w.cell? ⟨b, 0, none⟩ = some (.int .i64 x) ∧ w.cell? ⟨b, 1, none⟩ = some (.int .i64 y) ∧ w.cell? ⟨b, 2, none⟩ = some (.int .i64 d) ∧ w.cell? ⟨b, 3, none⟩ = some (.int .i64 c) ∧ w.cell? ⟨b, 4, none⟩ = some (.bool l) :=
  ⟨(cell_of_block h 0).trans rfl, (cell_of_block h 1).trans rfl, (cell_of_block h 2).trans rfl, (cell_of_block h 3).trans rfl, (cell_of_block h 4).trans rfl⟩
set_option maxHeartbeats 1600000 in
theorem FnExactHeadOk_over
    (hx : ∀ (x y d c : Int) (l : Bool) w, Calls Try.prog 12 #[.agg #[.int .i64 x, .int .i64 y, .int .i64 d, .int .i64 c, .bool l]] w fun e w' => e = .returned (.bool (decide (HeadR x y d c))) ∧ Below w.heap.size w w')
    (hy : ∀ (x y d c : Int) (l : Bool) w, Calls Try.prog 23 #[.agg #[.int .i64 x, .int .i64 y, .int .i64 d, .int .i64 c, .bool l]] w fun e w' => e = .returned (.bool (decide (HeadR x y d c))) ∧ Below w.heap.size w w')
    (x y d c : Int) (l : Bool) (w : World) (_ : (Lit.int .i64 x).wf = true) (_ : (Lit.int .i64 y).wf = true) (_ : (Lit.int .i64 d).wf = true) (_ : (Lit.int .i64 c).wf = true) :
    Calls Try.prog 4 #[.agg #[.int .i64 x, .int .i64 y, .int .i64 d, .int .i64 c, .bool l]] w fun e w' => e = .returned (.bool true) ∧ Below w.heap.size w w' := by
  have hx1 := hx x y d c l
  have hy1 := hy x y d c l
  have ht := toHead_any x y d c l
  have HX : Hid ((w.alloc (.cells #[.int .i64 x, .int .i64 y, .int .i64 d, .int .i64 c, .bool l] 46)).heap[w.heap.size]? = some (.cells #[.int .i64 x, .int .i64 y, .int .i64 d, .int .i64 c, .bool l] 46 (0, 0))) := heap_alloc_new w _
  have HB := hid_of (bstart w (.cells #[.int .i64 x, .int .i64 y, .int .i64 d, .int .i64 c, .bool l] 46))
  generalize decide (HeadR x y d c) = b at hx1 hy1
  have nb : (b != b) = false := by simp
  clear hx hy
  go_enter Try.func4, Try.ntmps4
  go_wp2_with fail
  refine (ht _).mono ?_
  rintro e w1 ⟨rfl, hB1⟩
  have HX1 := hid_of ((hB1.block _ (block_lt HX.out)).trans HX.out)
  have HB1 := hid_of (bnext HB.out hB1)
  clear hB1 HX HB
  go_wp2_with fail
  refine (hx1 _).mono ?_
  rintro e w2 ⟨rfl, hB2⟩
  have HX2 := hid_of ((hB2.block _ (block_lt HX1.out)).trans HX1.out)
  have HB2 := hid_of (bnext HB1.out hB2)
  clear hB2 HX1 HB1
  obtain ⟨k0, k1, k2, k3, k4⟩ := law_cells HX2.out
  have lx := block_lt HX2.out
  go_wp2_with fail
  refine (ht _).mono ?_
  rintro e w3 ⟨rfl, hB3⟩
  have HB3 := hid_of (bnext HB2.out hB3)
  clear hB3 HB2 HX2 k0 k1 k2 k3 k4 lx
  go_wp2_with fail
  refine (hy1 _).mono ?_
  rintro e w4 ⟨rfl, hB4⟩
  have HB4 := hid_of (bnext HB3.out hB4)
  clear hB4 HB3
  go_wp2_with fail
  go_ret
  exact ⟨rfl, HB4.out⟩
set_option maxHeartbeats 1600000 in
theorem FnExactHeadText_over
    (hx : ∀ (x y d c : Int) (l : Bool) w, Calls Try.prog 24 #[.agg #[.int .i64 x, .int .i64 y, .int .i64 d, .int .i64 c, .bool l]] w fun e w' => e = headAns x y d c l ∧ Below w.heap.size w w')
    (hy : ∀ (x y d c : Int) (l : Bool) w, Calls Try.prog 11 #[.agg #[.int .i64 x, .int .i64 y, .int .i64 d, .int .i64 c, .bool l]] w fun e w' => e = headAns x y d c l ∧ Below w.heap.size w w')
    (x y d c : Int) (l : Bool) (w : World) (_ : (Lit.int .i64 x).wf = true) (_ : (Lit.int .i64 y).wf = true) (_ : (Lit.int .i64 d).wf = true) (_ : (Lit.int .i64 c).wf = true) :
    Calls Try.prog 5 #[.agg #[.int .i64 x, .int .i64 y, .int .i64 d, .int .i64 c, .bool l]] w fun e w' => e = .returned (.bool true) ∧ Below w.heap.size w w' := by
  have hx1 := hx x y d c l
  have hy1 := hy x y d c l
  have ht := toHead_any x y d c l
  have HX : Hid ((w.alloc (.cells #[.int .i64 x, .int .i64 y, .int .i64 d, .int .i64 c, .bool l] 46)).heap[w.heap.size]? = some (.cells #[.int .i64 x, .int .i64 y, .int .i64 d, .int .i64 c, .bool l] 46 (0, 0))) := heap_alloc_new w _
  have HB := hid_of (bstart w (.cells #[.int .i64 x, .int .i64 y, .int .i64 d, .int .i64 c, .bool l] 46))
  obtain ⟨t, b, hAns⟩ : ∃ t b, headAns x y d c l = .returned (.tuple #[.string t, .bool b]) := by
    unfold headAns
    split
    · exact ⟨_, _, rfl⟩
    · exact ⟨_, _, rfl⟩
  rw [hAns] at hx1 hy1
  have nb : (b != b) = false := by simp
  clear hx hy hAns
  go_enter Try.func5, Try.ntmps5
  go_wp2_with fail
  refine (ht _).mono ?_
  rintro e w1 ⟨rfl, hB1⟩
  have HX1 := hid_of ((hB1.block _ (block_lt HX.out)).trans HX.out)
  have HB1 := hid_of (bnext HB.out hB1)
  clear hB1 HX HB
  go_wp2_with fail
  refine (hx1 _).mono ?_
  rintro e w2 ⟨rfl, hB2⟩
  have HX2 := hid_of ((hB2.block _ (block_lt HX1.out)).trans HX1.out)
  have HB2 := hid_of (bnext HB1.out hB2)
  clear hB2 HX1 HB1
  obtain ⟨k0, k1, k2, k3, k4⟩ := law_cells HX2.out
  have lx := block_lt HX2.out
  go_wp2_with fail
  refine (ht _).mono ?_
  rintro e w3 ⟨rfl, hB3⟩
  have HB3 := hid_of (bnext HB2.out hB3)
  clear hB3 HB2 HX2 k0 k1 k2 k3 k4 lx
  go_wp2_with fail
  refine (hy1 _).mono ?_
  rintro e w4 ⟨rfl, hB4⟩
  have HB4 := hid_of (bnext HB3.out hB4)
  clear hB4 HB3
  go_wp2_with fail
  go_ret
  exact ⟨rfl, HB4.out⟩
set_option maxHeartbeats 1600000 in
theorem FnExactReadHead_over
    (hx : ∀ (t : ByteArray) w, t.size ≤ 1048576 → Calls Try.prog 25 #[.string t] w fun e w' => e = readHAns t ∧ Below w.heap.size w w')
    (hy : ∀ (t : ByteArray) w, t.size ≤ 1048576 → Calls Try.prog 13 #[.string t] w fun e w' => e = readHAns t ∧ Below w.heap.size w w')
    (t : ByteArray) (w : World) (hl : t.size ≤ maxLen) :
    Calls Try.prog 6 #[.string t] w fun e w' => e = .returned (.bool true) ∧ Below w.heap.size w w' := by
  unfold maxLen at hl
  by_cases hs : t.size ≤ 1048576
  · have d0 : decide ((1048576 : Int) < t.size) = false := by simp; omega
    have hx1 := fun W => hx t W hs
    have hy1 := fun W => hy t W hs
    obtain ⟨x, y, d, c, l, b, hAns⟩ : ∃ x y d c l b, readHAns t = .returned (.tuple #[.agg #[.int .i64 x, .int .i64 y, .int .i64 d, .int .i64 c, .bool l], .bool b]) := by
      unfold readHAns
      split
      · exact ⟨_, _, _, _, _, _, rfl⟩
      · exact ⟨_, _, _, _, _, _, rfl⟩
    rw [hAns] at hx1 hy1
    have he := eqHead_same x y d c l
    have nb : (b != b) = false := by simp
    clear hx hy hAns
    go_enter Try.func6, Try.ntmps6
    go_wp2_with fail
    refine (hx1 _).mono ?_
    rintro e w1 ⟨rfl, hB1⟩
    have HX1 : Hid ((w1.alloc (.cells #[.int .i64 x, .int .i64 y, .int .i64 d, .int .i64 c, .bool l] 25)).heap[w1.heap.size]? = some (.cells #[.int .i64 x, .int .i64 y, .int .i64 d, .int .i64 c, .bool l] 25 (0, 0))) := heap_alloc_new w1 _
    have HB1 := hid_of (bal hB1 (.cells #[.int .i64 x, .int .i64 y, .int .i64 d, .int .i64 c, .bool l] 25))
    clear hB1
    go_wp2_with fail
    generalize w1.alloc (.cells #[.int .i64 x, .int .i64 y, .int .i64 d, .int .i64 c, .bool l] 25) = W2 at HX1 HB1 ⊢
    generalize w1.heap.size = X at HX1 ⊢
    refine (hy1 W2).mono ?_
    rintro e w3 ⟨rfl, hB3⟩
    have HX3 := hid_of ((hB3.block _ (block_lt HX1.out)).trans HX1.out)
    have HB3 := hid_of (bnext HB1.out hB3)
    clear hB3 HX1 HB1
    obtain ⟨k0, k1, k2, k3, k4⟩ := head_cells HX3.out
    have lx := block_lt HX3.out
    go_wp2_with fail
    refine (he _).mono ?_
    rintro e w4 ⟨rfl, hB4⟩
    have HB4 := hid_of (bnext (bal HB3.out _) hB4)
    clear hB4 HB3
    go_wp2_with fail
    go_ret
    exact ⟨rfl, HB4.out⟩
  · have h : (1048576 : Int) < t.size := by omega
    go_enter Try.func6, Try.ntmps6
    go_wp2_with fail
    go_ret
    exact ⟨rfl, Below.refl _ _⟩
end Go.Proofs.Ytcnlcbkgbcnloaa
