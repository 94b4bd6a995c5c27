/-
  The laws on tokens, over what the program's functions answer.
-/
import Derived.Test.YtcieladecjlnpaaRows
import Derived.Test.YtcieladecjlnpaaBase
import Derived.Test.YtcieladecjlnpaaTokMath
import Derived.Test.YtcieladecjlnpaaTriLib
import Derived.Test.YtcieladecjlnpaaTokArgs
import Derived.Test.YtcieladecjlnpaaByteLib
import Derived.Test.YtcieladecjlnpaaTokSpec
import Derived.Test.YtcieladecjlnpaaTokAns
import Derived.Test.YtcieladecjlnpaaTokOkAns
import Derived.Test.YtcieladecjlnpaaExpandSpec
import Derived.WalkKit
import Derived.ProofKit
import Derived.WalkLawsBesides
import Derived.Below
import Derived.Lib.SmallJoins
namespace Go.Proofs.Ytcieladecjlnpaa
open Go.RowKit Go.Joins TokMath

set_option maxHeartbeats 800000 in
theorem FnExactTokenOk_over (hA : TokAnswer) (x y z : Int) (w : World) (hx : (Lit.int .i64 x).wf = true) (hy : (Lit.int .i64 y).wf = true) (hz : (Lit.int .i64 z).wf = true) :
    Calls Try.prog 5 #[.agg #[.int .i64 x, .int .i64 y, .int .i64 z]] w fun e w' => e = .returned (.bool true) ∧ Below w.heap.size w w' := by
  have h0 := fun W => toToken_any x y z W
  have h1 := fun W => specTokenOk x y z W
  have h2 := fun W => hA x y z W hx hy hz
  unfold TokPost at h1
  generalize decide (TokRight (x, y, z)) = b at h1 h2
  clear hA hx hy hz
  have HH2 := hid_of h2
  have HH1 := hid_of h1
  have HH0 := hid_of h0
  clear h2 h1 h0
  go_enter Try.func5, Try.ntmps5
  go_wp2_with fail
  refine (HH0.out _).mono ?_
  rintro e w1 ⟨rfl, hB1⟩
  have x1 : w1.heap[w.heap.size]? = some (.cells #[.int .i64 x, .int .i64 y, .int .i64 z] 35 (0, 0)) := (hB1.block _ (by simp)).trans (heap_alloc_new w _)
  have HB1 := hid_of (bnext (bstart w _) hB1)
  have X1 := hid_of x1
  clear hB1 x1
  go_wp2_with fail
  refine (HH1.out _).mono ?_
  rintro e w2 ⟨rfl, hB2⟩
  have x2 := (hB2.block _ (block_lt X1.out)).trans X1.out
  have HB2 := hid_of (bnext HB1.out hB2)
  have c0 := cell_of_block x2 0
  have c1 := cell_of_block x2 1
  have c2 := cell_of_block x2 2
  have l2 := block_lt x2
  clear hB2 HB1 x2
  go_wp2_with fail
  refine (HH0.out _).mono ?_
  rintro e w3 ⟨rfl, hB3⟩
  have HB3 := hid_of (bnext HB2.out hB3)
  clear hB3 HB2 c0 c1 c2 l2
  go_wp2_with fail
  refine (HH2.out _).mono ?_
  rintro e w4 ⟨rfl, hB4⟩
  have HB4 := hid_of (bnext HB3.out hB4)
  clear hB4 HB3
  cases b
  all_goals
    go_wp2_with fail
    go_ret
    exact ⟨rfl, HB4.out⟩

/-- A text and a flag that both sides answer. -/
def ExpT (res : Option (List Int)) (s' : ByteArray) (b : Bool) : Prop := match res with
  | some F => s' = strOfNums F ∧ b = true
  | none => s' = ⟨#[]⟩ ∧ b = false
theorem exp_told {w : World} {res : Option (List Int)} {s' : ByteArray} {b : Bool} {e : Ending} {w' : World} (h : ExpT res s' b) (hp : ExpPost w res e w') : e = .returned (.tuple #[.string s', .bool b]) ∧ Below w.heap.size w w' := by
  cases res with
  | some F =>
    obtain ⟨rfl, rfl⟩ := h
    exact ⟨hp.2, hp.1⟩
  | none =>
    obtain ⟨rfl, rfl⟩ := h
    exact ⟨hp.2, hp.1⟩
theorem exp_t (res : Option (List Int)) : ∃ s' b, ExpT res s' b := by
  cases res with
  | some F => exact ⟨_, _, rfl, rfl⟩
  | none => exact ⟨_, _, rfl, rfl⟩

set_option maxHeartbeats 1600000 in
theorem FnExactExpand_at (s s' : ByteArray) (b : Bool) (a : Option Addr) (c m : Nat) (F : Nat → Tok) (w : World) (hs : s.size ≤ 1048576) (hn : m ≤ 1048576) (hC : TCame w a m F)
    (hP : ∀ g w, TCame w (some ⟨g, 0, none⟩) m F → Calls Try.prog 21 #[.string s, .slice (some ⟨g, 0, none⟩) m m] w fun e w' => e = .returned (.tuple #[.string s', .bool b]) ∧ Below w.heap.size w w')
    (hQ : ∀ g w, TCame w (some ⟨g, 0, none⟩) m F → Calls Try.prog 16 #[.string s, .slice (some ⟨g, 0, none⟩) m m] w fun e w' => e = .returned (.tuple #[.string s', .bool b]) ∧ Below w.heap.size w w') :
    Calls Try.prog 6 #[.string s, .slice a m c] w fun e w' => e = .returned (.bool true) ∧ Below w.heap.size w w' := by
  have HC := hid_of hC
  have HP := hid_of hP
  have HQ := hid_of hQ
  have d1 : decide ((1048576 : Int) < (s.size : Int)) = false := decide_eq_false (by omega)
  have d2 : decide (1048576 < s.size) = false := decide_eq_false (by omega)
  have k0 : ¬ (1048576 : Int) - (m : Int) < 0 := by omega
  have k1 : decide ((1048576 : Int) - (m : Int) < 0) = false := decide_eq_false (by omega)
  clear hC hP hQ
  have hsz : ∀ W, Calls Try.prog 20 #[.slice a m c, .int .i64 1048576] W fun e w' => e = .returned (.int .i64 (1048576 - (m : Int))) ∧ W = w' := fun W => by
    have h := szTokenS_any a m c 1048576 W (by omega) (by omega) (by omega)
    rw [if_pos (show (m : Int) ≤ 1048576 by omega)] at h
    exact h
  go_enter Try.func6, Try.ntmps6
  go_wp2_with fail
  refine (hsz _).mono ?_
  rintro e w1 ⟨rfl, rfl⟩
  clear hsz
  go_wp2_with fail
  refine (toTokenS_any a m c F _ HC.out hn).mono ?_
  rintro e w2 ⟨rfl, hO2, hB2⟩
  have HO2 := hid_of hO2
  have HB2 := hid_of hB2
  clear hO2 hB2
  go_wp2_with fail
  refine (HP.out _ _ HO2.out.came).mono ?_
  rintro e w3 ⟨rfl, hB3⟩
  have HB3 := hid_of (bnext HB2.out hB3)
  clear hB3 HP
  go_wp2_with fail
  refine (toTokenS_any a m c F _ (HC.out.called HB3.out) hn).mono ?_
  rintro e w4 ⟨rfl, hO4, hB4⟩
  have HO4 := hid_of hO4
  have HB4 := hid_of (bnext HB3.out hB4)
  clear hO4 hB4
  go_wp2_with fail
  refine (HQ.out _ _ HO4.out.came).mono ?_
  rintro e w5 ⟨rfl, hB5⟩
  have HO5 := hid_of (HO4.out.called hB5)
  have HB5 := hid_of (bnext HB4.out hB5)
  clear hB5 HQ
  have HT := hid_of (toTokenS_any a m c F w5 (HC.out.called HB5.out) hn)
  cases b
  all_goals
    go_wp2_with fail
    refine HT.out.mono ?_
    rintro e w6 ⟨rfl, hO6, hB6⟩
    have HO6 := hid_of (HO5.out.called hB6)
    have HO7 := hid_of hO6
    have HB6 := hid_of (bnext HB5.out hB6)
    clear hB6 hO6
    go_wp2_with fail
    refine (eqTokenS_same _ _ m m m F _ HO6.out.came HO7.out.came hn).mono ?_
    rintro e w7 ⟨rfl, hB7⟩
    have HB7 := hid_of (bnext HB6.out hB7)
    clear hB7
    go_wp2_with fail
    go_ret
    exact ⟨rfl, HB7.out⟩

theorem FnExactExpand_big (s : ByteArray) (a : Option Addr) (c m : Nat) (w : World) (h : ¬ s.size ≤ 1048576) (hs : s.size ≤ maxLen) :
    Calls Try.prog 6 #[.string s, .slice a m c] w fun e w' => e = .returned (.bool true) ∧ Below w.heap.size w w' := by
  unfold maxLen at hs
  have d1 : decide ((1048576 : Int) < (s.size : Int)) = true := decide_eq_true (by omega)
  have d2 : decide (1048576 < s.size) = true := decide_eq_true (by omega)
  go_enter Try.func6, Try.ntmps6
  go_wp2_with fail
  go_ret
  exact ⟨rfl, Below.refl _ _⟩
theorem FnExactExpand_many (s : ByteArray) (a : Option Addr) (c m : Nat) (w : World) (hs : s.size ≤ 1048576) (h : ¬ m ≤ 1048576) (hm : m ≤ maxLen) :
    Calls Try.prog 6 #[.string s, .slice a m c] w fun e w' => e = .returned (.bool true) ∧ Below w.heap.size w w' := by
  unfold maxLen at hm
  have d1 : decide ((1048576 : Int) < (s.size : Int)) = false := decide_eq_false (by omega)
  have d2 : decide (1048576 < s.size) = false := decide_eq_false (by omega)
  have hsz : ∀ W, Calls Try.prog 20 #[.slice a m c, .int .i64 1048576] W fun e w' => e = .returned (.int .i64 (-1)) ∧ W = w' := fun W => by
    have h := szTokenS_any a m c 1048576 W (by omega) (by omega) (by omega)
    rw [if_neg (show ¬ (m : Int) ≤ 1048576 by omega)] at h
    exact h
  go_enter Try.func6, Try.ntmps6
  go_wp2_with fail
  refine (hsz _).mono ?_
  rintro e w1 ⟨rfl, rfl⟩
  go_wp2_with fail
  go_ret
  exact ⟨rfl, Below.refl _ _⟩
theorem FnExactExpand_over (hA : ExpandAnswer) (s : ByteArray) (a : Option Addr) (n cap : Nat) (L : List Tok) (w : World) (hs : s.size ≤ maxLen) (hn : n = L.length) (hC : TCame w a n (fun j => L.getD j (0, 0, 0))) (hf : ∀ t ∈ L, (Lit.int .i64 t.1).wf = true ∧ (Lit.int .i64 t.2.1).wf = true ∧ (Lit.int .i64 t.2.2).wf = true) (hl : n ≤ maxLen) :
    Calls Try.prog 6 #[.string s, .slice a n cap] w fun e w' => e = .returned (.bool true) ∧ Below w.heap.size w w' := by
  subst hn
  by_cases h1 : s.size ≤ 1048576
  · by_cases h2 : L.length ≤ 1048576
    · obtain ⟨s', b, ht⟩ := exp_t (expandOf s L)
      exact FnExactExpand_at s s' b a cap L.length _ w h1 h2 hC (fun g W q => (specExpand s _ L.length L W q h2 h1).mono (fun e w' h => exp_told ht h)) (fun g W q => (hA s _ L.length L W q (Nat.le_refl _) h2 h1 hf).mono (fun e w' h => exp_told ht h))
    · exact FnExactExpand_many s a cap L.length w h1 h2 hl
  · exact FnExactExpand_big s a cap L.length w h1 hs

end Go.Proofs.Ytcieladecjlnpaa
