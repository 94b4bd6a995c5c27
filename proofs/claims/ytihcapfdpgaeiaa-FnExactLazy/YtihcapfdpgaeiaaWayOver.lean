/-
  The laws FnExactGreedy, FnExactLazy and FnExactCheapest, over what the program answers.
-/
import Derived.Test.YtihcapfdpgaeiaaRows
import Derived.Test.YtihcapfdpgaeiaaBase
import Derived.Test.YtihcapfdpgaeiaaTokMath
import Derived.Test.YtihcapfdpgaeiaaTriLib
import Derived.Test.YtihcapfdpgaeiaaTokEq
import Derived.Test.YtihcapfdpgaeiaaTokMark
import Derived.Test.YtihcapfdpgaeiaaSearchMath
import Derived.Test.YtihcapfdpgaeiaaCheapMath
import Derived.Test.YtihcapfdpgaeiaaTextLib
import Derived.Test.YtihcapfdpgaeiaaSearchAns
import Derived.Test.YtihcapfdpgaeiaaWaySpec
import Derived.Test.YtihcapfdpgaeiaaCheapSpec
import Derived.WalkKit
import Derived.ProofKit
import Derived.Below
import Derived.Lib.SmallJoins
namespace Go.Proofs.Ytihcapfdpgaeiaa
open Go.RowKit Go.Joins TokMath SearchMath CheapMath

/-- What the model hands back, with the place where it lies. -/
theorem way_came {L : List Tok} {w : World} {e : Ending} {w' : World} (h : WayPost L w e w') : ∃ (a : Option Addr) (cap : Nat), e = .returned (.tuple #[.slice a L.length cap, .bool true]) ∧ (L.length = 0 ∨ ∃ g, a = some ⟨g, 0, none⟩ ∧ TOwn w' w.heap.size g L.length (fun j => L.getD j (0, 0, 0))) ∧ Below w.heap.size w w' := by
  obtain ⟨a, cap, h1, h2, _, h3⟩ := h
  exact ⟨a, cap, h1, h2, h3⟩

set_option maxHeartbeats 1600000 in
theorem FnExactGreedy_at (s : ByteArray) (c : Int) (m : Nat) (F : Nat → Tok) (b : Bool) (w : World) (hs : (s.size : Int) ≤ 1048576) (hm : m ≤ 1048576)
    (hx : ∀ (w : World), Calls Try.prog 19 #[.string s, .int .i64 c] w fun e w' => ∃ (am : Option Addr) (cap' : Nat), e = .returned (.tuple #[.slice am m cap', .bool b]) ∧ TCame w' am m F ∧ (∀ g off, am = some ⟨g, off, none⟩ → g < w'.heap.size ∨ m = 0) ∧ Below w.heap.size w w')
    (hy : ∀ (w : World), Calls Try.prog 12 #[.string s, .int .i64 c] w fun e w' => ∃ (a' : Option Addr) (cap' : Nat), e = .returned (.tuple #[.slice a' m cap', .bool b]) ∧ TSL w' w.heap.size a' m F ∧ Below w.heap.size w w') :
    Calls Try.prog 6 #[.string s, .int .i64 c] w fun e w' => e = .returned (.bool true) ∧ Below w.heap.size w w' := by
  have Hx := hid_of hx
  have Hy := hid_of hy
  have hbb : (b != b) = false := bne_self_eq_false b
  have d : decide ((1048576 : Int) < (s.size : Int)) = false := decide_eq_false (by omega)
  have d' : decide (1048576 < s.size) = false := decide_eq_false (by omega)
  clear hx hy
  go_enter Try.func6, Try.ntmps6
  go_wp2_with fail
  refine (Hx.out w).mono ?_
  rintro e w2 ⟨am, cs, rfl, hW0, hz2', hB2⟩
  go_wp2_with fail
  refine (Hy.out w2).mono ?_
  rintro e w4 ⟨a', cap', rfl, hS4, hB4⟩
  have s2 := hB2.size
  have s4 := hB4.size
  have HS4 : Hid (∃ B, TokKeep w w4 B am a' m F F ∨ (m = 0 ∧ Below w.heap.size w w4)) := by
    by_cases h0 : m = 0
    · exact ⟨0, .inr ⟨h0, bnext hB2 hB4⟩⟩
    · refine ⟨w2.heap.size, .inl ⟨bnext hB2 hB4, hW0.called hB4, fun g off e => ?_, s4, s2, hS4⟩⟩
      rcases hz2' g off e with q | q
      · exact q
      · exact absurd q h0
  clear hW0 hz2' hB2 hS4 hB4 s2 s4
  by_cases h0 : m = 0
  · subst h0
    have HB4 : Hid (Below w.heap.size w w4) := by
      obtain ⟨B, q | q⟩ := HS4.out
      · exact q.1
      · exact q.2
    clear HS4
    go_wp2_with fail
    refine (eqTokenS_same a' am 0 cap' cs F w4 (.inl rfl) (.inl rfl) hm).mono ?_
    rintro e w5 ⟨rfl, hB5⟩
    have HB5 := hid_of (bnext HB4.out hB5)
    clear hB5 HB4
    go_wp2_with fail
    refine (markTokenS_none a' cap' 1 w5).mono ?_
    rintro e w6 ⟨rfl, rfl⟩
    go_wp2_with fail
    refine (heldTokenS_same a' 0 cap' 1 w6 (.inl rfl) hm (by omega) (by omega)).mono ?_
    rintro e w7 ⟨rfl, rfl⟩
    go_wp2_with fail
    refine (Hy.out w7).mono ?_
    rintro e w8 ⟨a2, cap2, rfl, _, hB8⟩
    have HB8 := hid_of (bnext HB5.out hB8)
    clear hB8 HB5
    go_wp2_with fail
    refine (eqTokenS_same a2 am 0 cap2 cs F w8 (.inl rfl) (.inl rfl) hm).mono ?_
    rintro e w9 ⟨rfl, hB9⟩
    have HB9 := hid_of (bnext HB8.out hB9)
    clear hB9 HB8
    go_wp2_with fail
    refine (heldTokenS_same a' 0 cap' 1 w9 (.inl rfl) hm (by omega) (by omega)).mono ?_
    rintro e w10 ⟨rfl, rfl⟩
    go_wp2_with fail
    go_ret
    exact ⟨rfl, HB9.out⟩
  · have HK4 : Hid (∃ B, TokKeep w w4 B am a' m F F) := by
      obtain ⟨B, q | q⟩ := HS4.out
      · exact ⟨B, q⟩
      · exact absurd q.1 h0
    clear HS4
    obtain ⟨B, HB4⟩ := HK4.out
    have HK := hid_of HB4
    clear HK4 HB4
    go_wp2_with fail
    refine (eqTokenS_same a' am m cap' cs F w4 HK.out.2.2.2.2.2.came HK.out.2.1 hm).mono ?_
    rintro e w5 ⟨rfl, hB5⟩
    have HK5 := hid_of (HK.out.next hB5)
    clear hB5 HK
    go_wp2_with fail
    refine (markTokenS_sl B a' m cap' F 1 w5 HK5.out.2.2.2.2.2 hm (by omega) (by omega)).mono ?_
    rintro e w6 ⟨rfl, hS6, row, hrow, hG6⟩
    have HK6 : Hid (TokKeep w w6 B am a' m F (markedT 1)) := by
      obtain ⟨k1, k2, k3, k4, k5, k6⟩ := HK5.out
      exact ⟨k1.grown hG6 (by omega) (fun k hk => by have := hrow k hk; omega), k2.grown (B := B) k3 hrow hG6, k3, Nat.le_trans k4 hG6.size, k5, hS6⟩
    clear hS6 hrow hG6 HK5
    go_wp2_with fail
    refine (heldTokenS_same a' m cap' 1 w6 HK6.out.2.2.2.2.2.came hm (by omega) (by omega)).mono ?_
    rintro e w7 ⟨rfl, rfl⟩
    go_wp2_with fail
    refine (Hy.out w7).mono ?_
    rintro e w8 ⟨a2, cap2, rfl, hS8, hB8⟩
    have HK8 := hid_of (HK6.out.next hB8)
    have HN8 := hid_of hS8.came
    clear hB8 hS8 HK6
    go_wp2_with fail
    refine (eqTokenS_same a2 am m cap2 cs F w8 HN8.out HK8.out.2.1 hm).mono ?_
    rintro e w9 ⟨rfl, hB9⟩
    have HK9 := hid_of (HK8.out.next hB9)
    clear hB9 HK8 HN8
    go_wp2_with fail
    refine (heldTokenS_same a' m cap' 1 w9 HK9.out.2.2.2.2.2.came hm (by omega) (by omega)).mono ?_
    rintro e w10 ⟨rfl, rfl⟩
    go_wp2_with fail
    go_ret
    exact ⟨rfl, HK9.out.1⟩
theorem FnExactGreedy_over (hA : GreedyAnswer) (s : ByteArray) (c : Int) (w : World) (hs : s.size ≤ maxLen) (hc : (Lit.int .i64 c).wf = true) :
    Calls Try.prog 6 #[.string s, .int .i64 c] w fun e w' => e = .returned (.bool true) ∧ Below w.heap.size w w' := by
  unfold maxLen at hs
  by_cases h : (s.size : Int) ≤ 1048576
  · by_cases hR : WayRight s c
    · have hl := greedyL_length s c
      refine FnExactGreedy_at s c (greedyL s c).length (fun j => (greedyL s c).getD j (0, 0, 0)) true w h (by have := hR.1; omega) (fun w => ?_) (fun w => ?_)
      · refine ((specGreedy s c w (by omega) hc).1 hR).mono ?_
        rintro e w1 ⟨a, cap, rfl, h1, _, h2⟩
        refine ⟨a, cap, rfl, h1.came, fun g off e => ?_, h2⟩
        rcases h1 with q | ⟨g', e', q⟩
        · exact .inr q
        · rw [e'] at e
          cases e
          exact .inl q.lt
      · refine ((hA s c w (by omega) hc).1 hR).mono ?_
        rintro e w1 ⟨a, cap, rfl, h1, _, h2⟩
        exact ⟨a, cap, rfl, h1, h2⟩
    · refine FnExactGreedy_at s c 0 (fun _ => (0, 0, 0)) false w h (by omega) (fun w => ?_) (fun w => ?_)
      · refine ((specGreedy s c w (by omega) hc).2 hR).mono ?_
        rintro e w1 ⟨a, cap, rfl, h1, h2⟩
        exact ⟨a, cap, rfl, .inl rfl, fun g off e => .inr rfl, h2⟩
      · refine ((hA s c w (by omega) hc).2 hR).mono ?_
        rintro e w1 ⟨a, cap, rfl, h1, h2⟩
        exact ⟨a, cap, rfl, .inl rfl, h2⟩
  · have d : decide ((1048576 : Int) < (s.size : Int)) = true := decide_eq_true (by omega)
    have d' : decide (1048576 < s.size) = true := decide_eq_true (by omega)
    clear hA
    go_enter Try.func6, Try.ntmps6
    go_wp2_with fail
    go_ret
    exact ⟨rfl, Below.refl _ _⟩

set_option maxHeartbeats 1600000 in
theorem FnExactLazy_at (s : ByteArray) (c : Int) (m : Nat) (F : Nat → Tok) (b : Bool) (w : World) (hs : (s.size : Int) ≤ 1048576) (hm : m ≤ 1048576)
    (hx : ∀ (w : World), Calls Try.prog 23 #[.string s, .int .i64 c] w fun e w' => ∃ (am : Option Addr) (cap' : Nat), e = .returned (.tuple #[.slice am m cap', .bool b]) ∧ TCame w' am m F ∧ (∀ g off, am = some ⟨g, off, none⟩ → g < w'.heap.size ∨ m = 0) ∧ Below w.heap.size w w')
    (hy : ∀ (w : World), Calls Try.prog 13 #[.string s, .int .i64 c] w fun e w' => ∃ (a' : Option Addr) (cap' : Nat), e = .returned (.tuple #[.slice a' m cap', .bool b]) ∧ TSL w' w.heap.size a' m F ∧ Below w.heap.size w w') :
    Calls Try.prog 7 #[.string s, .int .i64 c] w fun e w' => e = .returned (.bool true) ∧ Below w.heap.size w w' := by
  have Hx := hid_of hx
  have Hy := hid_of hy
  have hbb : (b != b) = false := bne_self_eq_false b
  have d : decide ((1048576 : Int) < (s.size : Int)) = false := decide_eq_false (by omega)
  have d' : decide (1048576 < s.size) = false := decide_eq_false (by omega)
  clear hx hy
  go_enter Try.func7, Try.ntmps7
  go_wp2_with fail
  refine (Hx.out w).mono ?_
  rintro e w2 ⟨am, cs, rfl, hW0, hz2', hB2⟩
  go_wp2_with fail
  refine (Hy.out w2).mono ?_
  rintro e w4 ⟨a', cap', rfl, hS4, hB4⟩
  have s2 := hB2.size
  have s4 := hB4.size
  have HS4 : Hid (∃ B, TokKeep w w4 B am a' m F F ∨ (m = 0 ∧ Below w.heap.size w w4)) := by
    by_cases h0 : m = 0
    · exact ⟨0, .inr ⟨h0, bnext hB2 hB4⟩⟩
    · refine ⟨w2.heap.size, .inl ⟨bnext hB2 hB4, hW0.called hB4, fun g off e => ?_, s4, s2, hS4⟩⟩
      rcases hz2' g off e with q | q
      · exact q
      · exact absurd q h0
  clear hW0 hz2' hB2 hS4 hB4 s2 s4
  by_cases h0 : m = 0
  · subst h0
    have HB4 : Hid (Below w.heap.size w w4) := by
      obtain ⟨B, q | q⟩ := HS4.out
      · exact q.1
      · exact q.2
    clear HS4
    go_wp2_with fail
    refine (eqTokenS_same a' am 0 cap' cs F w4 (.inl rfl) (.inl rfl) hm).mono ?_
    rintro e w5 ⟨rfl, hB5⟩
    have HB5 := hid_of (bnext HB4.out hB5)
    clear hB5 HB4
    go_wp2_with fail
    refine (markTokenS_none a' cap' 1 w5).mono ?_
    rintro e w6 ⟨rfl, rfl⟩
    go_wp2_with fail
    refine (heldTokenS_same a' 0 cap' 1 w6 (.inl rfl) hm (by omega) (by omega)).mono ?_
    rintro e w7 ⟨rfl, rfl⟩
    go_wp2_with fail
    refine (Hy.out w7).mono ?_
    rintro e w8 ⟨a2, cap2, rfl, _, hB8⟩
    have HB8 := hid_of (bnext HB5.out hB8)
    clear hB8 HB5
    go_wp2_with fail
    refine (eqTokenS_same a2 am 0 cap2 cs F w8 (.inl rfl) (.inl rfl) hm).mono ?_
    rintro e w9 ⟨rfl, hB9⟩
    have HB9 := hid_of (bnext HB8.out hB9)
    clear hB9 HB8
    go_wp2_with fail
    refine (heldTokenS_same a' 0 cap' 1 w9 (.inl rfl) hm (by omega) (by omega)).mono ?_
    rintro e w10 ⟨rfl, rfl⟩
    go_wp2_with fail
    go_ret
    exact ⟨rfl, HB9.out⟩
  · have HK4 : Hid (∃ B, TokKeep w w4 B am a' m F F) := by
      obtain ⟨B, q | q⟩ := HS4.out
      · exact ⟨B, q⟩
      · exact absurd q.1 h0
    clear HS4
    obtain ⟨B, HB4⟩ := HK4.out
    have HK := hid_of HB4
    clear HK4 HB4
    go_wp2_with fail
    refine (eqTokenS_same a' am m cap' cs F w4 HK.out.2.2.2.2.2.came HK.out.2.1 hm).mono ?_
    rintro e w5 ⟨rfl, hB5⟩
    have HK5 := hid_of (HK.out.next hB5)
    clear hB5 HK
    go_wp2_with fail
    refine (markTokenS_sl B a' m cap' F 1 w5 HK5.out.2.2.2.2.2 hm (by omega) (by omega)).mono ?_
    rintro e w6 ⟨rfl, hS6, row, hrow, hG6⟩
    have HK6 : Hid (TokKeep w w6 B am a' m F (markedT 1)) := by
      obtain ⟨k1, k2, k3, k4, k5, k6⟩ := HK5.out
      exact ⟨k1.grown hG6 (by omega) (fun k hk => by have := hrow k hk; omega), k2.grown (B := B) k3 hrow hG6, k3, Nat.le_trans k4 hG6.size, k5, hS6⟩
    clear hS6 hrow hG6 HK5
    go_wp2_with fail
    refine (heldTokenS_same a' m cap' 1 w6 HK6.out.2.2.2.2.2.came hm (by omega) (by omega)).mono ?_
    rintro e w7 ⟨rfl, rfl⟩
    go_wp2_with fail
    refine (Hy.out w7).mono ?_
    rintro e w8 ⟨a2, cap2, rfl, hS8, hB8⟩
    have HK8 := hid_of (HK6.out.next hB8)
    have HN8 := hid_of hS8.came
    clear hB8 hS8 HK6
    go_wp2_with fail
    refine (eqTokenS_same a2 am m cap2 cs F w8 HN8.out HK8.out.2.1 hm).mono ?_
    rintro e w9 ⟨rfl, hB9⟩
    have HK9 := hid_of (HK8.out.next hB9)
    clear hB9 HK8 HN8
    go_wp2_with fail
    refine (heldTokenS_same a' m cap' 1 w9 HK9.out.2.2.2.2.2.came hm (by omega) (by omega)).mono ?_
    rintro e w10 ⟨rfl, rfl⟩
    go_wp2_with fail
    go_ret
    exact ⟨rfl, HK9.out.1⟩
theorem FnExactLazy_over (hA : LazyAnswer) (s : ByteArray) (c : Int) (w : World) (hs : s.size ≤ maxLen) (hc : (Lit.int .i64 c).wf = true) :
    Calls Try.prog 7 #[.string s, .int .i64 c] w fun e w' => e = .returned (.bool true) ∧ Below w.heap.size w w' := by
  unfold maxLen at hs
  by_cases h : (s.size : Int) ≤ 1048576
  · by_cases hR : WayRight s c
    · have hl := lazyL_length s c
      refine FnExactLazy_at s c (lazyL s c).length (fun j => (lazyL s c).getD j (0, 0, 0)) true w h (by have := hR.1; omega) (fun w => ?_) (fun w => ?_)
      · refine ((specLazy s c w (by omega) hc).1 hR).mono ?_
        rintro e w1 ⟨a, cap, rfl, h1, _, h2⟩
        refine ⟨a, cap, rfl, h1.came, fun g off e => ?_, h2⟩
        rcases h1 with q | ⟨g', e', q⟩
        · exact .inr q
        · rw [e'] at e
          cases e
          exact .inl q.lt
      · refine ((hA s c w (by omega) hc).1 hR).mono ?_
        rintro e w1 ⟨a, cap, rfl, h1, _, h2⟩
        exact ⟨a, cap, rfl, h1, h2⟩
    · refine FnExactLazy_at s c 0 (fun _ => (0, 0, 0)) false w h (by omega) (fun w => ?_) (fun w => ?_)
      · refine ((specLazy s c w (by omega) hc).2 hR).mono ?_
        rintro e w1 ⟨a, cap, rfl, h1, h2⟩
        exact ⟨a, cap, rfl, .inl rfl, fun g off e => .inr rfl, h2⟩
      · refine ((hA s c w (by omega) hc).2 hR).mono ?_
        rintro e w1 ⟨a, cap, rfl, h1, h2⟩
        exact ⟨a, cap, rfl, .inl rfl, h2⟩
  · have d : decide ((1048576 : Int) < (s.size : Int)) = true := decide_eq_true (by omega)
    have d' : decide (1048576 < s.size) = true := decide_eq_true (by omega)
    clear hA
    go_enter Try.func7, Try.ntmps7
    go_wp2_with fail
    go_ret
    exact ⟨rfl, Below.refl _ _⟩

set_option maxHeartbeats 1600000 in
theorem FnExactCheapest_at (s : ByteArray) (c : Int) (m : Nat) (F : Nat → Tok) (b : Bool) (w : World) (hs : (s.size : Int) ≤ 1048576) (hm : m ≤ 1048576)
    (hx : ∀ (w : World), Calls Try.prog 24 #[.string s, .int .i64 c] w fun e w' => ∃ (am : Option Addr) (cap' : Nat), e = .returned (.tuple #[.slice am m cap', .bool b]) ∧ TCame w' am m F ∧ (∀ g off, am = some ⟨g, off, none⟩ → g < w'.heap.size ∨ m = 0) ∧ Below w.heap.size w w')
    (hy : ∀ (w : World), Calls Try.prog 14 #[.string s, .int .i64 c] w fun e w' => ∃ (a' : Option Addr) (cap' : Nat), e = .returned (.tuple #[.slice a' m cap', .bool b]) ∧ TSL w' w.heap.size a' m F ∧ Below w.heap.size w w') :
    Calls Try.prog 8 #[.string s, .int .i64 c] w fun e w' => e = .returned (.bool true) ∧ Below w.heap.size w w' := by
  have Hx := hid_of hx
  have Hy := hid_of hy
  have hbb : (b != b) = false := bne_self_eq_false b
  have d : decide ((1048576 : Int) < (s.size : Int)) = false := decide_eq_false (by omega)
  have d' : decide (1048576 < s.size) = false := decide_eq_false (by omega)
  clear hx hy
  go_enter Try.func8, Try.ntmps8
  go_wp2_with fail
  refine (Hx.out w).mono ?_
  rintro e w2 ⟨am, cs, rfl, hW0, hz2', hB2⟩
  go_wp2_with fail
  refine (Hy.out w2).mono ?_
  rintro e w4 ⟨a', cap', rfl, hS4, hB4⟩
  have s2 := hB2.size
  have s4 := hB4.size
  have HS4 : Hid (∃ B, TokKeep w w4 B am a' m F F ∨ (m = 0 ∧ Below w.heap.size w w4)) := by
    by_cases h0 : m = 0
    · exact ⟨0, .inr ⟨h0, bnext hB2 hB4⟩⟩
    · refine ⟨w2.heap.size, .inl ⟨bnext hB2 hB4, hW0.called hB4, fun g off e => ?_, s4, s2, hS4⟩⟩
      rcases hz2' g off e with q | q
      · exact q
      · exact absurd q h0
  clear hW0 hz2' hB2 hS4 hB4 s2 s4
  by_cases h0 : m = 0
  · subst h0
    have HB4 : Hid (Below w.heap.size w w4) := by
      obtain ⟨B, q | q⟩ := HS4.out
      · exact q.1
      · exact q.2
    clear HS4
    go_wp2_with fail
    refine (eqTokenS_same a' am 0 cap' cs F w4 (.inl rfl) (.inl rfl) hm).mono ?_
    rintro e w5 ⟨rfl, hB5⟩
    have HB5 := hid_of (bnext HB4.out hB5)
    clear hB5 HB4
    go_wp2_with fail
    refine (markTokenS_none a' cap' 1 w5).mono ?_
    rintro e w6 ⟨rfl, rfl⟩
    go_wp2_with fail
    refine (heldTokenS_same a' 0 cap' 1 w6 (.inl rfl) hm (by omega) (by omega)).mono ?_
    rintro e w7 ⟨rfl, rfl⟩
    go_wp2_with fail
    refine (Hy.out w7).mono ?_
    rintro e w8 ⟨a2, cap2, rfl, _, hB8⟩
    have HB8 := hid_of (bnext HB5.out hB8)
    clear hB8 HB5
    go_wp2_with fail
    refine (eqTokenS_same a2 am 0 cap2 cs F w8 (.inl rfl) (.inl rfl) hm).mono ?_
    rintro e w9 ⟨rfl, hB9⟩
    have HB9 := hid_of (bnext HB8.out hB9)
    clear hB9 HB8
    go_wp2_with fail
    refine (heldTokenS_same a' 0 cap' 1 w9 (.inl rfl) hm (by omega) (by omega)).mono ?_
    rintro e w10 ⟨rfl, rfl⟩
    go_wp2_with fail
    go_ret
    exact ⟨rfl, HB9.out⟩
  · have HK4 : Hid (∃ B, TokKeep w w4 B am a' m F F) := by
      obtain ⟨B, q | q⟩ := HS4.out
      · exact ⟨B, q⟩
      · exact absurd q.1 h0
    clear HS4
    obtain ⟨B, HB4⟩ := HK4.out
    have HK := hid_of HB4
    clear HK4 HB4
    go_wp2_with fail
    refine (eqTokenS_same a' am m cap' cs F w4 HK.out.2.2.2.2.2.came HK.out.2.1 hm).mono ?_
    rintro e w5 ⟨rfl, hB5⟩
    have HK5 := hid_of (HK.out.next hB5)
    clear hB5 HK
    go_wp2_with fail
    refine (markTokenS_sl B a' m cap' F 1 w5 HK5.out.2.2.2.2.2 hm (by omega) (by omega)).mono ?_
    rintro e w6 ⟨rfl, hS6, row, hrow, hG6⟩
    have HK6 : Hid (TokKeep w w6 B am a' m F (markedT 1)) := by
      obtain ⟨k1, k2, k3, k4, k5, k6⟩ := HK5.out
      exact ⟨k1.grown hG6 (by omega) (fun k hk => by have := hrow k hk; omega), k2.grown (B := B) k3 hrow hG6, k3, Nat.le_trans k4 hG6.size, k5, hS6⟩
    clear hS6 hrow hG6 HK5
    go_wp2_with fail
    refine (heldTokenS_same a' m cap' 1 w6 HK6.out.2.2.2.2.2.came hm (by omega) (by omega)).mono ?_
    rintro e w7 ⟨rfl, rfl⟩
    go_wp2_with fail
    refine (Hy.out w7).mono ?_
    rintro e w8 ⟨a2, cap2, rfl, hS8, hB8⟩
    have HK8 := hid_of (HK6.out.next hB8)
    have HN8 := hid_of hS8.came
    clear hB8 hS8 HK6
    go_wp2_with fail
    refine (eqTokenS_same a2 am m cap2 cs F w8 HN8.out HK8.out.2.1 hm).mono ?_
    rintro e w9 ⟨rfl, hB9⟩
    have HK9 := hid_of (HK8.out.next hB9)
    clear hB9 HK8 HN8
    go_wp2_with fail
    refine (heldTokenS_same a' m cap' 1 w9 HK9.out.2.2.2.2.2.came hm (by omega) (by omega)).mono ?_
    rintro e w10 ⟨rfl, rfl⟩
    go_wp2_with fail
    go_ret
    exact ⟨rfl, HK9.out.1⟩
theorem FnExactCheapest_over (hA : CheapAnswer) (s : ByteArray) (c : Int) (w : World) (hs : s.size ≤ maxLen) (hc : (Lit.int .i64 c).wf = true) :
    Calls Try.prog 8 #[.string s, .int .i64 c] w fun e w' => e = .returned (.bool true) ∧ Below w.heap.size w w' := by
  unfold maxLen at hs
  by_cases h : (s.size : Int) ≤ 1048576
  · by_cases hR : WayRight s c
    · have hl := cheapL_length s c
      refine FnExactCheapest_at s c (cheapL s c).length (fun j => (cheapL s c).getD j (0, 0, 0)) true w h (by have := hR.1; omega) (fun w => ?_) (fun w => ?_)
      · refine ((specCheap s c w (by omega) hc).1 hR).mono ?_
        rintro e w1 ⟨a, cap, rfl, h1, _, h2⟩
        refine ⟨a, cap, rfl, h1.came, fun g off e => ?_, h2⟩
        rcases h1 with q | ⟨g', e', q⟩
        · exact .inr q
        · rw [e'] at e
          cases e
          exact .inl q.lt
      · refine ((hA s c w (by omega) hc).1 hR).mono ?_
        rintro e w1 ⟨a, cap, rfl, h1, _, h2⟩
        exact ⟨a, cap, rfl, h1, h2⟩
    · refine FnExactCheapest_at s c 0 (fun _ => (0, 0, 0)) false w h (by omega) (fun w => ?_) (fun w => ?_)
      · refine ((specCheap s c w (by omega) hc).2 hR).mono ?_
        rintro e w1 ⟨a, cap, rfl, h1, h2⟩
        exact ⟨a, cap, rfl, .inl rfl, fun g off e => .inr rfl, h2⟩
      · refine ((hA s c w (by omega) hc).2 hR).mono ?_
        rintro e w1 ⟨a, cap, rfl, h1, h2⟩
        exact ⟨a, cap, rfl, .inl rfl, h2⟩
  · have d : decide ((1048576 : Int) < (s.size : Int)) = true := decide_eq_true (by omega)
    have d' : decide (1048576 < s.size) = true := decide_eq_true (by omega)
    clear hA
    go_enter Try.func8, Try.ntmps8
    go_wp2_with fail
    go_ret
    exact ⟨rfl, Below.refl _ _⟩

theorem FnExactBestMatch_over (hA : BestAnswer) (s : ByteArray) (t c : Int) (w : World) (hs : s.size ≤ maxLen) (ht : (Lit.int .i64 t).wf = true) (hc : (Lit.int .i64 c).wf = true) :
    Calls Try.prog 5 #[.string s, .int .i64 t, .int .i64 c] w fun e w' => e = .returned (.bool true) ∧ Below w.heap.size w w' := by
  unfold maxLen at hs
  by_cases h : (s.size : Int) ≤ 1048576
  · have d : decide ((1048576 : Int) < (s.size : Int)) = false := decide_eq_false (by omega)
    have d' : decide (1048576 < s.size) = false := decide_eq_false (by omega)
    have h1 := fun w => specBest s t c w (by omega)
    have h2 := fun w => hA s t c w (by omega) ht hc
    generalize bestOf s t c = P at h1 h2
    obtain ⟨n, q⟩ := P
    clear hA
    go_enter Try.func5, Try.ntmps5
    go_wp2_with fail
    refine (h1 _).mono ?_
    rintro e w1 ⟨rfl, hB1⟩
    have HB1 := hid_of hB1
    clear hB1 h1
    go_wp2_with fail
    refine (h2 _).mono ?_
    rintro e w2 ⟨rfl, hB2⟩
    have HB2 := hid_of (bnext HB1.out hB2)
    clear hB2 h2
    go_wp2_with fail
    go_ret
    exact ⟨rfl, HB2.out⟩
  · have d : decide ((1048576 : Int) < (s.size : Int)) = true := decide_eq_true (by omega)
    have d' : decide (1048576 < s.size) = true := decide_eq_true (by omega)
    clear hA
    go_enter Try.func5, Try.ntmps5
    go_wp2_with fail
    go_ret
    exact ⟨rfl, Below.refl _ _⟩

end Go.Proofs.Ytihcapfdpgaeiaa
