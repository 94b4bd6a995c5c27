/-
  The laws FnExactTableText and FnExactReadTable over what the model and the program answer. (Printed by tools/mktablaw.py.)
-/
import Derived.Test.YtcnlcbkgbcnloaaRows
import Derived.Test.YtcnlcbkgbcnloaaBase
import Derived.Test.YtcnlcbkgbcnloaaHeadMath
import Derived.Test.YtcnlcbkgbcnloaaRgbLib
import Derived.Test.YtcnlcbkgbcnloaaRgbEq
import Derived.Test.YtcnlcbkgbcnloaaRgbArgs
import Derived.Test.YtcnlcbkgbcnloaaRgbMark
import Derived.Test.YtcnlcbkgbcnloaaTableAns
import Derived.WalkKit
import Derived.ProofKit
import Derived.Below
import Derived.Lib.SmallJoins
namespace Go.Proofs.Ytcnlcbkgbcnloaa
open Go.RowKit Go.Joins HeadMath

set_option maxHeartbeats 1600000 in
theorem FnExactTableText_at (z : ByteArray) (b : Bool) (a : Option Addr) (c m : Nat) (F : Nat → Rgb3) (w : World) (hn : m ≤ 1048576) (hC : RgbCame w a m F)
    (hP : ∀ g w, RgbCame w (some ⟨g, 0, none⟩) m F → Calls Try.prog 28 #[.slice (some ⟨g, 0, none⟩) m m] w fun e w' => e = .returned (.tuple #[.string z, .bool b]) ∧ Below w.heap.size w w')
    (hQ : ∀ g w, RgbCame w (some ⟨g, 0, none⟩) m F → Calls Try.prog 15 #[.slice (some ⟨g, 0, none⟩) m m] w fun e w' => e = .returned (.tuple #[.string z, .bool b]) ∧ Below w.heap.size w w') :
    Calls Try.prog 7 #[.slice a m c] w fun e w' => e = .returned (.bool true) ∧ Below w.heap.size w w' := by
  have HC := hid_of hC
  have HP := hid_of hP
  have HQ := hid_of hQ
  have k0 : ¬ (1048576 : Int) - (m : Int) < 0 := by omega
  have k1 : decide ((1048576 : Int) - (m : Int) < 0) = false := decide_eq_false (by omega)
  clear hC hP hQ
  have hsz : ∀ W, Calls Try.prog 27 #[.slice a m c, .int .i64 1048576] W fun e w' => e = .returned (.int .i64 (1048576 - (m : Int))) ∧ W = w' := fun W => by
    have h := szRgbS_any a m c 1048576 W (by omega) (by omega) (by omega)
    rw [if_pos (show (m : Int) ≤ 1048576 by omega)] at h
    exact h
  go_enter Try.func7, Try.ntmps7
  go_wp2_with fail
  refine (hsz _).mono ?_
  rintro e w1 ⟨rfl, rfl⟩
  clear hsz
  go_wp2_with fail
  refine (toRgbS_any a m c F _ HC.out hn).mono ?_
  rintro e w2 ⟨rfl, hO2, hB2⟩
  have HO2 := hid_of hO2
  have HB2 := hid_of hB2
  clear hO2 hB2
  go_wp2_with fail
  refine (HP.out _ _ HO2.out.came).mono ?_
  rintro e w3 ⟨rfl, hB3⟩
  have HB3 := hid_of (bnext HB2.out hB3)
  clear hB3 HP
  go_wp2_with fail
  refine (toRgbS_any a m c F _ (HC.out.called HB3.out) hn).mono ?_
  rintro e w4 ⟨rfl, hO4, hB4⟩
  have HO4 := hid_of hO4
  have HB4 := hid_of (bnext HB3.out hB4)
  clear hO4 hB4
  go_wp2_with fail
  refine (HQ.out _ _ HO4.out.came).mono ?_
  rintro e w5 ⟨rfl, hB5⟩
  have HO5 := hid_of (HO4.out.called hB5)
  have HB5 := hid_of (bnext HB4.out hB5)
  clear hB5 HQ
  have HT := hid_of (toRgbS_any a m c F w5 (HC.out.called HB5.out) hn)
  cases b
  all_goals
    go_wp2_with fail
    refine HT.out.mono ?_
    rintro e w6 ⟨rfl, hO6, hB6⟩
    have HO6 := hid_of (HO5.out.called hB6)
    have HO7 := hid_of hO6
    have HB6 := hid_of (bnext HB5.out hB6)
    clear hB6 hO6
    go_wp2_with fail
    refine (eqRgbS_same _ _ m m m F _ HO6.out.came HO7.out.came hn).mono ?_
    rintro e w7 ⟨rfl, hB7⟩
    have HB7 := hid_of (bnext HB6.out hB7)
    clear hB7
    go_wp2_with fail
    go_ret
    exact ⟨rfl, HB7.out⟩
theorem FnExactTableText_many (a : Option Addr) (c m : Nat) (w : World) (h : ¬ m ≤ 1048576) (hm : m ≤ maxLen) :
    Calls Try.prog 7 #[.slice a m c] w fun e w' => e = .returned (.bool true) ∧ Below w.heap.size w w' := by
  unfold maxLen at hm
  have hsz : ∀ W, Calls Try.prog 27 #[.slice a m c, .int .i64 1048576] W fun e w' => e = .returned (.int .i64 (-1)) ∧ W = w' := fun W => by
    have h := szRgbS_any a m c 1048576 W (by omega) (by omega) (by omega)
    rw [if_neg (show ¬ (m : Int) ≤ 1048576 by omega)] at h
    exact h
  go_enter Try.func7, Try.ntmps7
  go_wp2_with fail
  refine (hsz _).mono ?_
  rintro e w1 ⟨rfl, rfl⟩
  go_wp2_with fail
  go_ret
  exact ⟨rfl, Below.refl _ _⟩
theorem FnExactTableText_over
    (hx : ∀ (a : Option Addr) (n cap : Nat) (F : Nat → Rgb3) (w : World), RgbCame w a n F → n ≤ 1048576 → Calls Try.prog 28 #[.slice a n cap] w (TabPost F n w))
    (hy : ∀ (a : Option Addr) (n cap : Nat) (F : Nat → Rgb3) (w : World), RgbCame w a n F → n ≤ 1048576 → Calls Try.prog 15 #[.slice a n cap] w (TabPost F n w))
    (a : Option Addr) (n cap : Nat) (L : List Rgb3) (w : World) (hn : n = L.length) (hC : RgbCame w a n (fun j => L.getD j (0, 0, 0))) (_ : ∀ t ∈ L, (Lit.int .i64 t.1).wf = true ∧ (Lit.int .i64 t.2.1).wf = true ∧ (Lit.int .i64 t.2.2).wf = true) (hl : n ≤ maxLen) :
    Calls Try.prog 7 #[.slice a n cap] w fun e w' => e = .returned (.bool true) ∧ Below w.heap.size w w' := by
  subst hn
  by_cases h2 : L.length ≤ 1048576
  · obtain ⟨T, b, _, _, hf⟩ := tab_fix (fun j => L.getD j (0, 0, 0)) L.length
    exact FnExactTableText_at T b a cap L.length _ w h2 hC (fun g W q => (hx _ L.length L.length _ W q h2).mono (hf W)) (fun g W q => (hy _ L.length L.length _ W q h2).mono (hf W))
  · exact FnExactTableText_many a cap L.length w h2 hl
set_option maxHeartbeats 1600000 in
theorem FnExactReadTable_at (s : ByteArray) (m : Nat) (F : Nat → Rgb3) (b : Bool) (w : World) (hs : (s.size : Int) ≤ 1048576) (hm : m ≤ 1048576)
    (hx : ∀ (w : World), Calls Try.prog 31 #[.string s] w fun e w' => ∃ (am : Option Addr) (cap' : Nat), e = .returned (.tuple #[.slice am m cap', .bool b]) ∧ RgbCame w' am m F ∧ (∀ g off, am = some ⟨g, off, none⟩ → g < w'.heap.size ∨ m = 0) ∧ Below w.heap.size w w')
    (hy : ∀ (w : World), Calls Try.prog 16 #[.string s] w fun e w' => ∃ (a' : Option Addr) (cap' : Nat), e = .returned (.tuple #[.slice a' m cap', .bool b]) ∧ RgbSL w' w.heap.size a' m F ∧ Below w.heap.size w w') :
    Calls Try.prog 8 #[.string s] w fun e w' => e = .returned (.bool true) ∧ Below w.heap.size w w' := by
  have Hx := hid_of hx
  have Hy := hid_of hy
  have hbb : (b != b) = false := bne_self_eq_false b
  have d : decide ((1048576 : Int) < (s.size : Int)) = false := decide_eq_false (by omega)
  have d' : decide (1048576 < s.size) = false := decide_eq_false (by omega)
  clear hx hy
  go_enter Try.func8, Try.ntmps8
  go_wp2_with fail
  refine (Hx.out w).mono ?_
  rintro e w2 ⟨am, cs, rfl, hW0, hz2', hB2⟩
  go_wp2_with fail
  refine (Hy.out w2).mono ?_
  rintro e w4 ⟨a', cap', rfl, hS4, hB4⟩
  have s2 := hB2.size
  have s4 := hB4.size
  have HS4 : Hid (∃ B, RgbKeep w w4 B am a' m F F ∨ (m = 0 ∧ Below w.heap.size w w4)) := by
    by_cases h0 : m = 0
    · exact ⟨0, .inr ⟨h0, bnext hB2 hB4⟩⟩
    · refine ⟨w2.heap.size, .inl ⟨bnext hB2 hB4, hW0.called hB4, fun g off e => ?_, s4, s2, hS4⟩⟩
      rcases hz2' g off e with q | q
      · exact q
      · exact absurd q h0
  clear hW0 hz2' hB2 hS4 hB4 s2 s4
  by_cases h0 : m = 0
  · subst h0
    have HB4 : Hid (Below w.heap.size w w4) := by
      obtain ⟨B, q | q⟩ := HS4.out
      · exact q.1
      · exact q.2
    clear HS4
    go_wp2_with fail
    refine (eqRgbS_same a' am 0 cap' cs F w4 (.inl rfl) (.inl rfl) hm).mono ?_
    rintro e w5 ⟨rfl, hB5⟩
    have HB5 := hid_of (bnext HB4.out hB5)
    clear hB5 HB4
    go_wp2_with fail
    refine (markRgbS_none a' cap' 1 w5).mono ?_
    rintro e w6 ⟨rfl, rfl⟩
    go_wp2_with fail
    refine (heldRgbS_same a' 0 cap' 1 w6 (.inl rfl) hm (by omega) (by omega)).mono ?_
    rintro e w7 ⟨rfl, rfl⟩
    go_wp2_with fail
    refine (Hy.out w7).mono ?_
    rintro e w8 ⟨a2, cap2, rfl, _, hB8⟩
    have HB8 := hid_of (bnext HB5.out hB8)
    clear hB8 HB5
    go_wp2_with fail
    refine (eqRgbS_same a2 am 0 cap2 cs F w8 (.inl rfl) (.inl rfl) hm).mono ?_
    rintro e w9 ⟨rfl, hB9⟩
    have HB9 := hid_of (bnext HB8.out hB9)
    clear hB9 HB8
    go_wp2_with fail
    refine (heldRgbS_same a' 0 cap' 1 w9 (.inl rfl) hm (by omega) (by omega)).mono ?_
    rintro e w10 ⟨rfl, rfl⟩
    go_wp2_with fail
    go_ret
    exact ⟨rfl, HB9.out⟩
  · have HK4 : Hid (∃ B, RgbKeep w w4 B am a' m F F) := by
      obtain ⟨B, q | q⟩ := HS4.out
      · exact ⟨B, q⟩
      · exact absurd q.1 h0
    clear HS4
    obtain ⟨B, HB4⟩ := HK4.out
    have HK := hid_of HB4
    clear HK4 HB4
    go_wp2_with fail
    refine (eqRgbS_same a' am m cap' cs F w4 HK.out.2.2.2.2.2.came HK.out.2.1 hm).mono ?_
    rintro e w5 ⟨rfl, hB5⟩
    have HK5 := hid_of (HK.out.next hB5)
    clear hB5 HK
    go_wp2_with fail
    refine (markRgbS_sl B a' m cap' F 1 w5 HK5.out.2.2.2.2.2 hm (by omega) (by omega)).mono ?_
    rintro e w6 ⟨rfl, hS6, row, hrow, hG6⟩
    have HK6 : Hid (RgbKeep w w6 B am a' m F (rgbMarkedT 1)) := by
      obtain ⟨k1, k2, k3, k4, k5, k6⟩ := HK5.out
      exact ⟨k1.grown hG6 (by omega) (fun k hk => by have := hrow k hk; omega), k2.grown (B := B) k3 hrow hG6, k3, Nat.le_trans k4 hG6.size, k5, hS6⟩
    clear hS6 hrow hG6 HK5
    go_wp2_with fail
    refine (heldRgbS_same a' m cap' 1 w6 HK6.out.2.2.2.2.2.came hm (by omega) (by omega)).mono ?_
    rintro e w7 ⟨rfl, rfl⟩
    go_wp2_with fail
    refine (Hy.out w7).mono ?_
    rintro e w8 ⟨a2, cap2, rfl, hS8, hB8⟩
    have HK8 := hid_of (HK6.out.next hB8)
    have HN8 := hid_of hS8.came
    clear hB8 hS8 HK6
    go_wp2_with fail
    refine (eqRgbS_same a2 am m cap2 cs F w8 HN8.out HK8.out.2.1 hm).mono ?_
    rintro e w9 ⟨rfl, hB9⟩
    have HK9 := hid_of (HK8.out.next hB9)
    clear hB9 HK8 HN8
    go_wp2_with fail
    refine (heldRgbS_same a' m cap' 1 w9 HK9.out.2.2.2.2.2.came hm (by omega) (by omega)).mono ?_
    rintro e w10 ⟨rfl, rfl⟩
    go_wp2_with fail
    go_ret
    exact ⟨rfl, HK9.out.1⟩
theorem FnExactReadTable_over
    (hx : ∀ (t : ByteArray) (w : World), t.size ≤ 1048576 → Calls Try.prog 31 #[.string t] w (RdTab t w))
    (hy : ∀ (t : ByteArray) (w : World), t.size ≤ 1048576 → Calls Try.prog 16 #[.string t] w (RdTab t w))
    (s : ByteArray) (w : World) (hs : s.size ≤ maxLen) :
    Calls Try.prog 8 #[.string s] w fun e w' => e = .returned (.bool true) ∧ Below w.heap.size w w' := by
  unfold maxLen at hs
  by_cases h : s.size ≤ 1048576
  · by_cases hR : TableIn s
    · refine FnExactReadTable_at s (s.size / 3) (colA s) true w (by omega) (by omega) (fun w => ?_) (fun w => ?_)
      · refine (hx s w h).mono ?_
        rintro e w1 ⟨⟨_, a, c, rfl, h1⟩ | ⟨q, _⟩, h2⟩
        · refine ⟨a, c, rfl, h1.came, fun g off e => ?_, h2⟩
          rcases h1 with q | ⟨g', e', q⟩
          · exact .inr q
          · rw [e'] at e
            cases e
            exact .inl q.lt
        · exact absurd hR q
      · refine (hy s w h).mono ?_
        rintro e w1 ⟨⟨_, a, c, rfl, h1⟩ | ⟨q, _⟩, h2⟩
        · exact ⟨a, c, rfl, h1, h2⟩
        · exact absurd hR q
    · refine FnExactReadTable_at s 0 (fun _ => (0, 0, 0)) false w (by omega) (by omega) (fun w => ?_) (fun w => ?_)
      · refine (hx s w h).mono ?_
        rintro e w1 ⟨⟨q, _⟩ | ⟨_, a, c, rfl⟩, h2⟩
        · exact absurd q hR
        · exact ⟨a, c, rfl, .inl rfl, fun g off e => .inr rfl, h2⟩
      · refine (hy s w h).mono ?_
        rintro e w1 ⟨⟨q, _⟩ | ⟨_, a, c, rfl⟩, h2⟩
        · exact absurd q hR
        · exact ⟨a, c, rfl, .inl rfl, h2⟩
  · have d : decide ((1048576 : Int) < (s.size : Int)) = true := decide_eq_true (by omega)
    have d' : decide (1048576 < s.size) = true := decide_eq_true (by omega)
    clear hx hy
    go_enter Try.func8, Try.ntmps8
    go_wp2_with fail
    go_ret
    exact ⟨rfl, Below.refl _ _⟩
end Go.Proofs.Ytcnlcbkgbcnloaa
