/-
  The walks of the document's model of what is clear. (Printed by tools/mkclear.py.)
-/
import Derived.Test.YtcnlcbkgbcnloaaRows
import Derived.Test.YtcnlcbkgbcnloaaHk01
import Derived.Test.YtcnlcbkgbcnloaaHk02
import Derived.Test.YtcnlcbkgbcnloaaHk03
import Derived.Test.YtcnlcbkgbcnloaaHk04
import Derived.Test.YtcnlcbkgbcnloaaHk06
import Derived.Test.YtcnlcbkgbcnloaaHk11
import Derived.Test.YtcnlcbkgbcnloaaHk05
import Derived.Test.YtcnlcbkgbcnloaaHk16
import Derived.Test.YtcnlcbkgbcnloaaHk08
import Derived.Test.YtcnlcbkgbcnloaaHk09
import Derived.Test.YtcnlcbkgbcnloaaHk21
import Derived.WalkKit
import Derived.ProofKit
import Derived.WalkLawsBesides
import Derived.Below
import Derived.Lib.SmallJoins
namespace Go.Proofs.Ytcnlcbkgbcnloaa
open Go.RowKit Go.Joins OutMath RastMath BigTextMath HeadMath

theorem specDepth17 (x y c : Int) (d : Nat) (l : Bool) (w : World) (hd : d ≤ 16) :
    Calls Try.prog 69 #[.agg #[.int .i64 x, .int .i64 y, .int .i64 (d : Int), .int .i64 c, .bool l]] w fun e w' => e = .returned (.int .i64 (d : Int)) ∧ Below w.heap.size w w' := by
  have hi := fun W => in_yes (d : Int) 0 16 W (by omega) (by omega)
  have HB := hid_of (bstart w (.cells #[.int .i64 x, .int .i64 y, .int .i64 (d : Int), .int .i64 c, .bool l] 25))
  clear hd
  go_enter Try.func69, Try.ntmps69
  go_wp2_with fail
  refine (hi _).mono ?_
  rintro e w1 ⟨rfl, rfl⟩
  go_wp2_with fail
  go_ret
  exact ⟨rfl, HB.out⟩
/-- Each number lies in 0 .. M. -/
def InM (f : Nat → Int) (n : Nat) (M : Int) : Prop := ∀ i, i < n → 0 ≤ f i ∧ f i ≤ M
theorem inM_fit (f : Nat → Int) (n d : Nat) : InM f n (p2 d - 1) ↔ Fit12 f n d := ⟨fun h i hi => by have := h i hi; omega, fun h i hi => by have := h i hi; omega⟩
theorem InM.next {f : Nat → Int} {n : Nat} {M : Int} (h : InM f n M) (h0 : 0 ≤ f n) (h1 : f n ≤ M) : InM f (n + 1) M := fun i hi => by
  by_cases e : i = n
  · rw [e]; exact ⟨h0, h1⟩
  · exact h i (by omega)
set_option maxRecDepth 100000 in
set_option maxHeartbeats 3200000 in
theorem specClearOk_gray (x y table : Int) (d : Nat) (l : Bool) (a : Option Addr) (n cap : Nat) (f : Nat → Int) (w : World) (hC : Came w a n f) (hn : n ≤ 1048576) (h1 : 1 ≤ n) (hd : d ≤ 16) :
    Calls Try.prog 51 #[.agg #[.int .i64 x, .int .i64 y, .int .i64 (d : Int), .int .i64 0, .bool l], .int .i64 table, .slice a n cap] w (Flag (InM f n (p2 d - 1) ∧ n = 1) w) := by
  have HC := hid_of hC
  have HB := hid_of (bstart w (.cells #[.int .i64 x, .int .i64 y, .int .i64 (d : Int), .int .i64 0, .bool l] 25))
  have HX : Hid ((w.alloc (.cells #[.int .i64 x, .int .i64 y, .int .i64 (d : Int), .int .i64 0, .bool l] 25)).heap[w.heap.size]? = some (.cells #[.int .i64 x, .int .i64 y, .int .i64 (d : Int), .int .i64 0, .bool l] 25 (0, 0))) := heap_alloc_new w _
  have z0 : ((n : Int) == 0) = false := by simp only [beq_eq_false_iff_ne, ne_eq]; omega
  have hdp := fun W => specDepth17 x y 0 d l W hd
  have hpw := fun W => pow_any d W (by omega)
  have hpp := p2_pos d
  have hp16 : p2 d ≤ 65536 := by
    have := p2_le (show d ≤ 16 by omega)
    rw [show p2 16 = 65536 by decide +kernel] at this
    exact this
  obtain ⟨P, hP⟩ : ∃ P, P = p2 d := ⟨_, rfl⟩
  rw [← hP] at hpw hpp hp16
  have HP := hid_of hP
  have wp : IntKind.i64.wrap (P - 1) = P - 1 := by rw [IntKind.wrap_i64]; omega
  rw [← hP]
  clear hP
  have H1 := hid_of h1
  clear hC h1
  go_enter Try.func51, Try.ntmps51
  go_wp2_with fail
  generalize w.alloc (.cells #[.int .i64 x, .int .i64 y, .int .i64 (d : Int), .int .i64 0, .bool l] 25) = W1 at HX HB ⊢
  refine (hdp W1).mono ?_
  rintro e w1 ⟨rfl, hB1⟩
  have HX1 := hid_of ((hB1.block _ (block_lt HX.out)).trans HX.out)
  have HB1 := hid_of (bnext HB.out hB1)
  clear hB1 HX HB hdp
  go_wp2_with fail
  refine (hpw w1).mono ?_
  rintro e w2 ⟨rfl, rfl⟩
  go_wp2_with fail
  go_loop [9] (fun i => ∃ j : Nat, j ≤ n ∧ i = .int .i64 j ∧ Hid (InM f j (P - 1))) (fun i => n - (intOf i).toNat)
  case atStart => exact ⟨0, Nat.zero_le _, rfl, fun i hi => absurd hi (Nat.not_lt_zero i)⟩
  case round =>
    obtain ⟨j, hj, rfl, hok⟩ := hrel
    by_cases hlt : j < n
    · rcases HC.out.called HB1.out with q0 | ⟨g, off, rfl, hg, hc⟩
      · omega
      · have k0 := hc j hlt
        clear hc
        by_cases hin : 0 ≤ f j ∧ f j ≤ (P - 1)
        · have HK : Hid (InM f (j + 1) (P - 1)) := hok.out.next hin.1 hin.2
          have hi := fun W => in_yes (f j) 0 (P - 1) W hin.1 hin.2
          clear hin
          go_wp2_with fail
          refine (hi _).mono ?_
          rintro e w3 ⟨rfl, rfl⟩
          go_wp2_with fail
          go_round
          case rel => exact ⟨j + 1, by omega, by go_num, HK⟩
          case measure => simp [intOf]; omega
        · have HK : Hid (¬ InM f n (P - 1)) := fun k => hin (k j hlt)
          have hi := fun W => in_no (f j) 0 (P - 1) W hin
          clear hin
          go_wp2_with fail
          refine (hi _).mono ?_
          rintro e w3 ⟨rfl, rfl⟩
          go_wp2_with fail
          go_ret
          exact ⟨false, rfl, by simp [HK.out], HB1.out⟩
    · obtain rfl : j = n := by omega
      go_wp2_with fail
      go_ret
      refine ⟨_, rfl, ?_, HB1.out⟩
      simp [hok.out]
      have := H1.out
      omega
set_option maxRecDepth 100000 in
set_option maxHeartbeats 3200000 in
theorem specClearOk_full (x y table : Int) (d : Nat) (l : Bool) (a : Option Addr) (n cap : Nat) (f : Nat → Int) (w : World) (hC : Came w a n f) (hn : n ≤ 1048576) (h1 : 1 ≤ n) (hd : d ≤ 16) :
    Calls Try.prog 51 #[.agg #[.int .i64 x, .int .i64 y, .int .i64 (d : Int), .int .i64 2, .bool l], .int .i64 table, .slice a n cap] w (Flag (InM f n (p2 d - 1) ∧ n = 3) w) := by
  have HC := hid_of hC
  have HB := hid_of (bstart w (.cells #[.int .i64 x, .int .i64 y, .int .i64 (d : Int), .int .i64 2, .bool l] 25))
  have HX : Hid ((w.alloc (.cells #[.int .i64 x, .int .i64 y, .int .i64 (d : Int), .int .i64 2, .bool l] 25)).heap[w.heap.size]? = some (.cells #[.int .i64 x, .int .i64 y, .int .i64 (d : Int), .int .i64 2, .bool l] 25 (0, 0))) := heap_alloc_new w _
  have z0 : ((n : Int) == 0) = false := by simp only [beq_eq_false_iff_ne, ne_eq]; omega
  have hdp := fun W => specDepth17 x y 2 d l W hd
  have hpw := fun W => pow_any d W (by omega)
  have hpp := p2_pos d
  have hp16 : p2 d ≤ 65536 := by
    have := p2_le (show d ≤ 16 by omega)
    rw [show p2 16 = 65536 by decide +kernel] at this
    exact this
  obtain ⟨P, hP⟩ : ∃ P, P = p2 d := ⟨_, rfl⟩
  rw [← hP] at hpw hpp hp16
  have HP := hid_of hP
  have wp : IntKind.i64.wrap (P - 1) = P - 1 := by rw [IntKind.wrap_i64]; omega
  rw [← hP]
  clear hP
  have H1 := hid_of h1
  clear hC h1
  go_enter Try.func51, Try.ntmps51
  go_wp2_with fail
  generalize w.alloc (.cells #[.int .i64 x, .int .i64 y, .int .i64 (d : Int), .int .i64 2, .bool l] 25) = W1 at HX HB ⊢
  refine (hdp W1).mono ?_
  rintro e w1 ⟨rfl, hB1⟩
  have HX1 := hid_of ((hB1.block _ (block_lt HX.out)).trans HX.out)
  have HB1 := hid_of (bnext HB.out hB1)
  clear hB1 HX HB hdp
  go_wp2_with fail
  refine (hpw w1).mono ?_
  rintro e w2 ⟨rfl, rfl⟩
  go_wp2_with fail
  go_loop [9] (fun i => ∃ j : Nat, j ≤ n ∧ i = .int .i64 j ∧ Hid (InM f j (P - 1))) (fun i => n - (intOf i).toNat)
  case atStart => exact ⟨0, Nat.zero_le _, rfl, fun i hi => absurd hi (Nat.not_lt_zero i)⟩
  case round =>
    obtain ⟨j, hj, rfl, hok⟩ := hrel
    by_cases hlt : j < n
    · rcases HC.out.called HB1.out with q0 | ⟨g, off, rfl, hg, hc⟩
      · omega
      · have k0 := hc j hlt
        clear hc
        by_cases hin : 0 ≤ f j ∧ f j ≤ (P - 1)
        · have HK : Hid (InM f (j + 1) (P - 1)) := hok.out.next hin.1 hin.2
          have hi := fun W => in_yes (f j) 0 (P - 1) W hin.1 hin.2
          clear hin
          go_wp2_with fail
          refine (hi _).mono ?_
          rintro e w3 ⟨rfl, rfl⟩
          go_wp2_with fail
          go_round
          case rel => exact ⟨j + 1, by omega, by go_num, HK⟩
          case measure => simp [intOf]; omega
        · have HK : Hid (¬ InM f n (P - 1)) := fun k => hin (k j hlt)
          have hi := fun W => in_no (f j) 0 (P - 1) W hin
          clear hin
          go_wp2_with fail
          refine (hi _).mono ?_
          rintro e w3 ⟨rfl, rfl⟩
          go_wp2_with fail
          go_ret
          exact ⟨false, rfl, by simp [HK.out], HB1.out⟩
    · obtain rfl : j = n := by omega
      go_wp2_with fail
      go_ret
      refine ⟨_, rfl, ?_, HB1.out⟩
      simp [hok.out]
      have := H1.out
      omega
set_option maxRecDepth 100000 in
set_option maxHeartbeats 3200000 in
theorem specClearOk_table (x y table : Int) (d : Nat) (l : Bool) (a : Option Addr) (n cap : Nat) (f : Nat → Int) (w : World) (hC : Came w a n f) (hn : n ≤ 1048576) (h1 : 1 ≤ n) (_hd : d ≤ 16) (ht : (n : Int) ≤ table) :
    Calls Try.prog 51 #[.agg #[.int .i64 x, .int .i64 y, .int .i64 (d : Int), .int .i64 3, .bool l], .int .i64 table, .slice a n cap] w (Flag (InM f n 255 ∧ n = n) w) := by
  have HC := hid_of hC
  have HB := hid_of (bstart w (.cells #[.int .i64 x, .int .i64 y, .int .i64 (d : Int), .int .i64 3, .bool l] 25))
  have HX : Hid ((w.alloc (.cells #[.int .i64 x, .int .i64 y, .int .i64 (d : Int), .int .i64 3, .bool l] 25)).heap[w.heap.size]? = some (.cells #[.int .i64 x, .int .i64 y, .int .i64 (d : Int), .int .i64 3, .bool l] 25 (0, 0))) := heap_alloc_new w _
  have z0 : ((n : Int) == 0) = false := by simp only [beq_eq_false_iff_ne, ne_eq]; omega
  have dt : decide (table < (n : Int)) = false := decide_eq_false (by omega)
  clear ht
  clear hC h1
  go_enter Try.func51, Try.ntmps51
  go_wp2_with fail
  have HB1 := HB
  clear HX HB
  generalize w.alloc (.cells #[.int .i64 x, .int .i64 y, .int .i64 (d : Int), .int .i64 3, .bool l] 25) = w2 at HB1 ⊢
  go_loop [9] (fun i => ∃ j : Nat, j ≤ n ∧ i = .int .i64 j ∧ Hid (InM f j 255)) (fun i => n - (intOf i).toNat)
  case atStart => exact ⟨0, Nat.zero_le _, rfl, fun i hi => absurd hi (Nat.not_lt_zero i)⟩
  case round =>
    obtain ⟨j, hj, rfl, hok⟩ := hrel
    by_cases hlt : j < n
    · rcases HC.out.called HB1.out with q0 | ⟨g, off, rfl, hg, hc⟩
      · omega
      · have k0 := hc j hlt
        clear hc
        by_cases hin : 0 ≤ f j ∧ f j ≤ 255
        · have HK : Hid (InM f (j + 1) 255) := hok.out.next hin.1 hin.2
          have hi := fun W => in_yes (f j) 0 255 W hin.1 hin.2
          clear hin
          go_wp2_with fail
          refine (hi _).mono ?_
          rintro e w3 ⟨rfl, rfl⟩
          go_wp2_with fail
          go_round
          case rel => exact ⟨j + 1, by omega, by go_num, HK⟩
          case measure => simp [intOf]; omega
        · have HK : Hid (¬ InM f n 255) := fun k => hin (k j hlt)
          have hi := fun W => in_no (f j) 0 255 W hin
          clear hin
          go_wp2_with fail
          refine (hi _).mono ?_
          rintro e w3 ⟨rfl, rfl⟩
          go_wp2_with fail
          go_ret
          exact ⟨false, rfl, by simp [HK.out], HB1.out⟩
    · obtain rfl : j = n := by omega
      go_wp2_with fail
      go_ret
      refine ⟨_, rfl, ?_, HB1.out⟩
      simp [hok.out]
set_option maxRecDepth 100000 in
set_option maxHeartbeats 3200000 in
theorem specClearOk_other (x y c table : Int) (d : Nat) (l : Bool) (a : Option Addr) (n cap : Nat) (f : Nat → Int) (w : World) (hC : Came w a n f) (hn : n ≤ 1048576) (h1 : 1 ≤ n) (_hd : d ≤ 16) (n0 : ¬ c = 0) (n2 : ¬ c = 2) (n3 : ¬ c = 3) :
    Calls Try.prog 51 #[.agg #[.int .i64 x, .int .i64 y, .int .i64 (d : Int), .int .i64 c, .bool l], .int .i64 table, .slice a n cap] w (Flag (InM f n 0 ∧ n = 0) w) := by
  have HC := hid_of hC
  have HB := hid_of (bstart w (.cells #[.int .i64 x, .int .i64 y, .int .i64 (d : Int), .int .i64 c, .bool l] 25))
  have HX : Hid ((w.alloc (.cells #[.int .i64 x, .int .i64 y, .int .i64 (d : Int), .int .i64 c, .bool l] 25)).heap[w.heap.size]? = some (.cells #[.int .i64 x, .int .i64 y, .int .i64 (d : Int), .int .i64 c, .bool l] 25 (0, 0))) := heap_alloc_new w _
  have z0 : ((n : Int) == 0) = false := by simp only [beq_eq_false_iff_ne, ne_eq]; omega
  have c0 : (c == 0) = false := by simp only [beq_eq_false_iff_ne, ne_eq]; exact n0
  have c2 : (c == 2) = false := by simp only [beq_eq_false_iff_ne, ne_eq]; exact n2
  have c3 : (c == 3) = false := by simp only [beq_eq_false_iff_ne, ne_eq]; exact n3
  clear n0 n2 n3
  have H1 := hid_of h1
  clear hC h1
  go_enter Try.func51, Try.ntmps51
  go_wp2_with fail
  have HB1 := HB
  clear HX HB
  generalize w.alloc (.cells #[.int .i64 x, .int .i64 y, .int .i64 (d : Int), .int .i64 c, .bool l] 25) = w2 at HB1 ⊢
  go_loop [9] (fun i => ∃ j : Nat, j ≤ n ∧ i = .int .i64 j ∧ Hid (InM f j 0)) (fun i => n - (intOf i).toNat)
  case atStart => exact ⟨0, Nat.zero_le _, rfl, fun i hi => absurd hi (Nat.not_lt_zero i)⟩
  case round =>
    obtain ⟨j, hj, rfl, hok⟩ := hrel
    by_cases hlt : j < n
    · rcases HC.out.called HB1.out with q0 | ⟨g, off, rfl, hg, hc⟩
      · omega
      · have k0 := hc j hlt
        clear hc
        by_cases hin : 0 ≤ f j ∧ f j ≤ 0
        · have HK : Hid (InM f (j + 1) 0) := hok.out.next hin.1 hin.2
          have hi := fun W => in_yes (f j) 0 0 W hin.1 hin.2
          clear hin
          go_wp2_with fail
          refine (hi _).mono ?_
          rintro e w3 ⟨rfl, rfl⟩
          go_wp2_with fail
          go_round
          case rel => exact ⟨j + 1, by omega, by go_num, HK⟩
          case measure => simp [intOf]; omega
        · have HK : Hid (¬ InM f n 0) := fun k => hin (k j hlt)
          have hi := fun W => in_no (f j) 0 0 W hin
          clear hin
          go_wp2_with fail
          refine (hi _).mono ?_
          rintro e w3 ⟨rfl, rfl⟩
          go_wp2_with fail
          go_ret
          exact ⟨false, rfl, by simp [HK.out], HB1.out⟩
    · obtain rfl : j = n := by omega
      go_wp2_with fail
      go_ret
      refine ⟨_, rfl, ?_, HB1.out⟩
      simp [hok.out]
      have := H1.out
      omega
theorem specClearOk (x y c table : Int) (d : Nat) (l : Bool) (a : Option Addr) (n cap : Nat) (f : Nat → Int) (w : World) (hC : Came w a n f) (hn : n ≤ 1048576) (h1 : 1 ≤ n) (hd : d ≤ 16) :
    Calls Try.prog 51 #[.agg #[.int .i64 x, .int .i64 y, .int .i64 (d : Int), .int .i64 c, .bool l], .int .i64 table, .slice a n cap] w (Flag (ClearR (d : Int) c table n f) w) := by
  have ed : ((d : Int)).toNat = d := Int.toNat_natCast d
  by_cases h0 : c = 0
  · subst h0
    refine (specClearOk_gray x y table d l a n cap f w hC hn h1 hd).mono fun e w' h => h.congr ?_
    unfold ClearR
    rw [inM_fit, ed]
    constructor
    · rintro ⟨k, e⟩
      exact ⟨h1, .inl ⟨rfl, e, k⟩⟩
    · rintro ⟨_, ⟨_, e, k⟩ | ⟨q, _⟩ | ⟨q, _⟩⟩
      · exact ⟨k, e⟩
      · omega
      · omega
  by_cases h2 : c = 2
  · subst h2
    refine (specClearOk_full x y table d l a n cap f w hC hn h1 hd).mono fun e w' h => h.congr ?_
    unfold ClearR
    rw [inM_fit, ed]
    constructor
    · rintro ⟨k, e⟩
      exact ⟨h1, .inr (.inl ⟨rfl, e, k⟩)⟩
    · rintro ⟨_, ⟨q, _⟩ | ⟨_, e, k⟩ | ⟨q, _⟩⟩
      · omega
      · exact ⟨k, e⟩
      · omega
  by_cases h3 : c = 3
  · subst h3
    by_cases ht : (n : Int) ≤ table
    · refine (specClearOk_table x y table d l a n cap f w hC hn h1 hd ht).mono fun e w' h => h.congr ?_
      unfold ClearR
      rw [show (255 : Int) = p2 8 - 1 by rw [p2_8]; rfl, inM_fit]
      constructor
      · rintro ⟨k, _⟩
        exact ⟨h1, .inr (.inr ⟨rfl, ht, k⟩)⟩
      · rintro ⟨_, ⟨q, _⟩ | ⟨q, _⟩ | ⟨_, e, k⟩⟩
        · omega
        · omega
        · exact ⟨k, rfl⟩
    · have dt : decide (table < (n : Int)) = true := decide_eq_true (by omega)
      have HN : Hid (¬ ClearR (d : Int) 3 table n f) := by
        rintro ⟨_, ⟨q, _⟩ | ⟨q, _⟩ | ⟨_, e, k⟩⟩
        · omega
        · omega
        · exact ht e
      have HB := hid_of (bstart w (.cells #[.int .i64 x, .int .i64 y, .int .i64 (d : Int), .int .i64 3, .bool l] 25))
      clear ht
      go_enter Try.func51, Try.ntmps51
      go_wp2_with fail
      go_ret
      exact ⟨_, rfl, by simp [HN.out], HB.out⟩
  · refine (specClearOk_other x y c table d l a n cap f w hC hn h1 hd h0 h2 h3).mono fun e w' h => h.congr ?_
    unfold ClearR
    constructor
    · rintro ⟨_, e⟩
      omega
    · rintro ⟨_, ⟨q, _⟩ | ⟨q, _⟩ | ⟨q, _⟩⟩
      · omega
      · omega
      · omega
set_option maxRecDepth 100000 in
set_option maxHeartbeats 3200000 in
theorem specClearText_yes (x y c table : Int) (d : Nat) (l : Bool) (a : Option Addr) (n cap : Nat) (f : Nat → Int) (w : World) (hC : Came w a n f) (hn : n ≤ 1048576) (hR : HeadR x y (d : Int) c) (hK : ClearR (d : Int) c table n f) :
    Calls Try.prog 19 #[.agg #[.int .i64 x, .int .i64 y, .int .i64 (d : Int), .int .i64 c, .bool l], .int .i64 table, .slice a n cap] w fun e w' => e = .returned (.tuple #[.string (clrT c f n), .bool true]) ∧ Below w.heap.size w w' := by
  have h5 := five_range (depth_five hR.2.2)
  have hk := specHeadOk x y (d : Int) c l
  rw [decide_eq_true hR] at hk
  have hco := fun W (h : Came W a n f) => specClearOk x y c table d l a n cap f W h hn hK.1 (by omega)
  have z0 : ((n : Int) == 0) = false := by
    have := hK.1
    simp only [beq_eq_false_iff_ne, ne_eq]
    omega
  have HC := hid_of hC
  have HK := hid_of hK
  have HX : Hid ((w.alloc (.cells #[.int .i64 x, .int .i64 y, .int .i64 (d : Int), .int .i64 c, .bool l] 25)).heap[w.heap.size]? = some (.cells #[.int .i64 x, .int .i64 y, .int .i64 (d : Int), .int .i64 c, .bool l] 25 (0, 0))) := heap_alloc_new w _
  have HB := hid_of (bstart w (.cells #[.int .i64 x, .int .i64 y, .int .i64 (d : Int), .int .i64 c, .bool l] 25))
  have HFT := hid_of (clear_fit hR.2.2 hK)
  clear hC hK hR
  go_enter Try.func19, Try.ntmps19
  go_wp2_with fail
  refine (hk _).mono ?_
  rintro e w1 ⟨rfl, hB1⟩
  have HX1 := hid_of ((hB1.block _ (block_lt HX.out)).trans HX.out)
  have HB1 := hid_of (bnext HB.out hB1)
  clear hB1 HX HB hk
  obtain ⟨k0, k1, k2, k3, k4⟩ := head_cells HX1.out
  have lx := block_lt HX1.out
  go_wp2_with fail
  refine (hco w1 (HC.out.called HB1.out)).mono ?_
  rintro e w2 ⟨b, rfl, hb, hB2⟩
  obtain rfl := hb.mpr HK.out
  have HX2 := hid_of ((hB2.block _ (block_lt HX1.out)).trans HX1.out)
  have HB2 := hid_of (bnext HB1.out hB2)
  clear hB2 HX1 HB1 hco hb k0 k1 k2 k3 k4 lx
  obtain ⟨k0, k1, k2, k3, k4⟩ := head_cells HX2.out
  have lx := block_lt HX2.out
  clear HX2
  by_cases h3 : c = 3
  · have c3 : (c == 3) = true := by rw [h3]; rfl
    obtain ⟨q, hq⟩ : ∃ q : Nat, q = 1 := ⟨_, rfl⟩
    have hqi : ((1 : Nat) : Int) = 1 := rfl
    have HE : Hid (strOfNums (clrL 1 f n) = clrT c f n) := by show _ = _; unfold clrT; rw [if_pos h3]
    have HF : Hid (Fit12 f n 8) := by
      have := HFT.out
      rw [show clrD c = 8 from if_pos h3] at this
      exact this
    clear h3 hq
    go_wp2_with fail
    go_loopw [9, 10] (fun s i w' => ∃ j : Nat, j ≤ n ∧ i = .int .i64 j ∧ s = .string (strOfNums (clrL 1 f j)) ∧ Hid (Below w.heap.size w w')) (fun _ i _ => n - (intOf i).toNat)
    case atStart => exact ⟨0, Nat.zero_le _, rfl, rfl, HB2.out⟩
    case round =>
      clear k0 k1 k2 k3 k4 lx HB2
      obtain ⟨j, hj, rfl, rfl, hS⟩ := hrel
      by_cases hlt : j < n
      · rcases HC.out with q0 | ⟨g, off, rfl, hg, hc⟩
        · omega
        · have k0 := (hS.out.cell (p := ⟨g, off + j, none⟩) hg).trans (hc j hlt)
          have lg : g < wr.heap.size := Nat.lt_of_lt_of_le hg hS.out.size
          have hf := HF.out j hlt
          rw [show p2 8 = 256 by decide +kernel] at hf
          have hbg := fun W => l01Big_any (f j) 1 W hf.1 (by omega) (by omega)
          rw [hqi] at hbg
          obtain ⟨A, hA⟩ : ∃ A, A = strOfNums (clrL 1 f j) := ⟨_, rfl⟩
          obtain ⟨B, hB⟩ : ∃ B, B = strOfNums (low (f j) 1) := ⟨_, rfl⟩
          have hsz : A.size + B.size ≤ 9223372036854775807 := by
            rw [hA, hB, strOfNums_size, strOfNums_size, clrL_length, low_length]
            omega
          have HN : Hid (A ++ B = strOfNums (clrL 1 f (j + 1))) := by
            show _ = _
            rw [clrL_next, hA, hB]
            exact nums_app _ _
          rw [← hA]
          rw [← hB] at hbg
          clear hc hA hB hf
          go_wp2_with fail
          refine (hbg _).mono ?_
          rintro e w3 ⟨rfl, hB3⟩
          have HB3 := hid_of (bnext hS.out hB3)
          clear hB3 hS hbg
          go_wp2_with fail
          go_roundw
          case rel => exact ⟨j + 1, by omega, by go_num, by rw [HN.out], HB3⟩
          case measure => simp [intOf]; omega
      · obtain rfl : j = n := by omega
        rw [HE.out]
        go_wp2_with fail
        exact bodyPost_ret (v := .tuple #[.string (clrT c f j), .bool true]) (by simp [results, Try.results19, go_sem]) rfl ⟨rfl, hS.out⟩
  · have c3 : (c == 3) = false := by simp only [beq_eq_false_iff_ne, ne_eq]; exact h3
    have hqi : ((2 : Nat) : Int) = 2 := rfl
    have HE : Hid (strOfNums (clrL 2 f n) = clrT c f n) := by show _ = _; unfold clrT; rw [if_neg h3]
    have HF : Hid (Fit12 f n 16) := by
      have := HFT.out
      rw [show clrD c = 16 from if_neg h3] at this
      exact this
    clear h3
    go_wp2_with fail
    go_loopw [9, 10] (fun s i w' => ∃ j : Nat, j ≤ n ∧ i = .int .i64 j ∧ s = .string (strOfNums (clrL 2 f j)) ∧ Hid (Below w.heap.size w w')) (fun _ i _ => n - (intOf i).toNat)
    case atStart => exact ⟨0, Nat.zero_le _, rfl, rfl, HB2.out⟩
    case round =>
      clear k0 k1 k2 k3 k4 lx HB2
      obtain ⟨j, hj, rfl, rfl, hS⟩ := hrel
      by_cases hlt : j < n
      · rcases HC.out with q0 | ⟨g, off, rfl, hg, hc⟩
        · omega
        · have k0 := (hS.out.cell (p := ⟨g, off + j, none⟩) hg).trans (hc j hlt)
          have lg : g < wr.heap.size := Nat.lt_of_lt_of_le hg hS.out.size
          have hf := HF.out j hlt
          rw [show p2 16 = 65536 by decide +kernel] at hf
          have hbg := fun W => l01Big_any (f j) 2 W hf.1 (by omega) (by omega)
          rw [hqi] at hbg
          obtain ⟨A, hA⟩ : ∃ A, A = strOfNums (clrL 2 f j) := ⟨_, rfl⟩
          obtain ⟨B, hB⟩ : ∃ B, B = strOfNums (low (f j) 2) := ⟨_, rfl⟩
          have hsz : A.size + B.size ≤ 9223372036854775807 := by
            rw [hA, hB, strOfNums_size, strOfNums_size, clrL_length, low_length]
            omega
          have HN : Hid (A ++ B = strOfNums (clrL 2 f (j + 1))) := by
            show _ = _
            rw [clrL_next, hA, hB]
            exact nums_app _ _
          rw [← hA]
          rw [← hB] at hbg
          clear hc hA hB hf
          go_wp2_with fail
          refine (hbg _).mono ?_
          rintro e w3 ⟨rfl, hB3⟩
          have HB3 := hid_of (bnext hS.out hB3)
          clear hB3 hS hbg
          go_wp2_with fail
          go_roundw
          case rel => exact ⟨j + 1, by omega, by go_num, by rw [HN.out], HB3⟩
          case measure => simp [intOf]; omega
      · obtain rfl : j = n := by omega
        rw [HE.out]
        go_wp2_with fail
        exact bodyPost_ret (v := .tuple #[.string (clrT c f j), .bool true]) (by simp [results, Try.results19, go_sem]) rfl ⟨rfl, hS.out⟩
theorem specClearText (x y c table : Int) (l : Bool) (d : Int) (a : Option Addr) (n cap : Nat) (f : Nat → Int) (w : World) (hC : Came w a n f) (hn : n ≤ 1048576) :
    Calls Try.prog 19 #[.agg #[.int .i64 x, .int .i64 y, .int .i64 d, .int .i64 c, .bool l], .int .i64 table, .slice a n cap] w (ClrPost x y d c table n f w) := by
  by_cases hR : HeadR x y d c
  · have h5 := five_range (depth_five hR.2.2)
    obtain ⟨d, rfl⟩ := Int.eq_ofNat_of_zero_le (show 0 ≤ d by omega)
    by_cases hK : ClearR (d : Int) c table n f
    · exact (specClearText_yes x y c table d l a n cap f w hC hn hR hK).mono fun e w' h => ⟨.inl ⟨⟨hR, hK⟩, h.1⟩, h.2⟩
    · have HN : Hid (¬ (HeadR x y (d : Int) c ∧ ClearR (d : Int) c table n f)) := fun h => hK h.2
      have hk := specHeadOk x y (d : Int) c l
      rw [decide_eq_true hR] at hk
      have HC := hid_of hC
      have HX : Hid ((w.alloc (.cells #[.int .i64 x, .int .i64 y, .int .i64 (d : Int), .int .i64 c, .bool l] 25)).heap[w.heap.size]? = some (.cells #[.int .i64 x, .int .i64 y, .int .i64 (d : Int), .int .i64 c, .bool l] 25 (0, 0))) := heap_alloc_new w _
      have HB := hid_of (bstart w (.cells #[.int .i64 x, .int .i64 y, .int .i64 (d : Int), .int .i64 c, .bool l] 25))
      by_cases h0 : n = 0
      · have z0 : ((n : Int) == 0) = true := by rw [h0]; rfl
        clear hC hR hK h0
        go_enter Try.func19, Try.ntmps19
        go_wp2_with fail
        refine (hk _).mono ?_
        rintro e w1 ⟨rfl, hB1⟩
        have HB1 := hid_of (bnext HB.out hB1)
        clear hB1
        go_wp2_with fail
        exact bodyPost_ret (v := .tuple #[.string ⟨#[]⟩, .bool false]) (by simp [results, Try.results19, go_sem]) rfl ⟨.inr ⟨HN.out, rfl⟩, HB1.out⟩
      · have hco := fun W (h : Came W a n f) => specClearOk x y c table d l a n cap f W h hn (by omega) (by omega)
        have z0 : ((n : Int) == 0) = false := by simp only [beq_eq_false_iff_ne, ne_eq]; omega
        have HK := hid_of hK
        clear hC hR hK h0
        go_enter Try.func19, Try.ntmps19
        go_wp2_with fail
        refine (hk _).mono ?_
        rintro e w1 ⟨rfl, hB1⟩
        have HX1 := hid_of ((hB1.block _ (block_lt HX.out)).trans HX.out)
        have HB1 := hid_of (bnext HB.out hB1)
        clear hB1 HX HB hk
        obtain ⟨k0, k1, k2, k3, k4⟩ := head_cells HX1.out
        have lx := block_lt HX1.out
        go_wp2_with fail
        refine (hco w1 (HC.out.called HB1.out)).mono ?_
        rintro e w2 ⟨b, rfl, hb, hB2⟩
        have hbf : b = false := by
          cases b
          · rfl
          · exact absurd (hb.mp rfl) HK.out
        subst hbf
        have HB2 := hid_of (bnext HB1.out hB2)
        clear hB2 HX1 HB1 hco hb
        go_wp2_with fail
        exact bodyPost_ret (v := .tuple #[.string ⟨#[]⟩, .bool false]) (by simp [results, Try.results19, go_sem]) rfl ⟨.inr ⟨HN.out, rfl⟩, HB2.out⟩
  · have HN : Hid (¬ (HeadR x y d c ∧ ClearR d c table n f)) := fun h => hR h.1
    have hk := specHeadOk x y d c l
    rw [decide_eq_false hR] at hk
    have HB := hid_of (bstart w (.cells #[.int .i64 x, .int .i64 y, .int .i64 d, .int .i64 c, .bool l] 25))
    clear hC hR
    go_enter Try.func19, Try.ntmps19
    go_wp2_with fail
    refine (hk _).mono ?_
    rintro e w1 ⟨rfl, hB1⟩
    have HB1 := hid_of (bnext HB.out hB1)
    clear hB1
    go_wp2_with fail
    exact bodyPost_ret (v := .tuple #[.string ⟨#[]⟩, .bool false]) (by simp [results, Try.results19, go_sem]) rfl ⟨.inr ⟨HN.out, rfl⟩, HB1.out⟩
end Go.Proofs.Ytcnlcbkgbcnloaa
