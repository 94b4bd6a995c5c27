/-
  The walks of what the program makes of what is clear. (Printed by tools/mkclearimpl.py.)
-/
import Derived.Test.YtcnlcbkgbcnloaaRows
import Derived.Test.YtcnlcbkgbcnloaaHk01
import Derived.Test.YtcnlcbkgbcnloaaHk02
import Derived.Test.YtcnlcbkgbcnloaaHk03
import Derived.Test.YtcnlcbkgbcnloaaHk23
import Derived.Test.YtcnlcbkgbcnloaaHk24
import Derived.Test.YtcnlcbkgbcnloaaHk04
import Derived.Test.YtcnlcbkgbcnloaaHk05
import Derived.Test.YtcnlcbkgbcnloaaHk16
import Derived.Test.YtcnlcbkgbcnloaaHk18
import Derived.Test.YtcnlcbkgbcnloaaHk26
import Derived.Test.YtcnlcbkgbcnloaaHk06
import Derived.Test.YtcnlcbkgbcnloaaHk11
import Derived.Test.YtcnlcbkgbcnloaaHk21
import Derived.WalkKit
import Derived.ProofKit
import Derived.WalkLawsBesides
import Derived.Below
import Derived.Lib.SmallJoins
namespace Go.Proofs.Ytcnlcbkgbcnloaa
open Go.RowKit Go.Joins OutMath RastMath HeadMath

theorem clearDepth_any (c : Int) (w : World) : Calls Try.prog 48 #[.int .i64 c] w fun e w' => e = .returned (.int .i64 (clrD c : Int)) ∧ w' = w := by
  unfold clrD
  by_cases h : c = 3
  · have c3 : (c == 3) = true := by rw [h]; rfl
    rw [if_pos h]
    clear h
    go_enter Try.func48, Try.ntmps48
    go_wp2_with fail
    go_ret
    exact ⟨rfl, rfl⟩
  · have c3 : (c == 3) = false := by simp only [beq_eq_false_iff_ne, ne_eq]; exact h
    rw [if_neg h]
    clear h
    go_enter Try.func48, Try.ntmps48
    go_wp2_with fail
    go_ret
    exact ⟨rfl, rfl⟩
set_option maxHeartbeats 1600000 in
theorem implClearOk_gray (x y table : Int) (d : Nat) (l : Bool) (a : Option Addr) (n cap : Nat) (f : Nat → Int) (w : World) (hC : Came w a n f) (hn : n ≤ 1048576) (h1 : 1 ≤ n) (hd : d ≤ 16) :
    Calls Try.prog 70 #[.agg #[.int .i64 x, .int .i64 y, .int .i64 (d : Int), .int .i64 0, .bool l], .int .i64 table, .slice a n cap] w (Flag (n = 1 ∧ Fit12 f n d) w) := by
  have HC := hid_of hC
  have HB := hid_of (bstart w (.cells #[.int .i64 x, .int .i64 y, .int .i64 (d : Int), .int .i64 0, .bool l] 25))
  have HX : Hid ((w.alloc (.cells #[.int .i64 x, .int .i64 y, .int .i64 (d : Int), .int .i64 0, .bool l] 25)).heap[w.heap.size]? = some (.cells #[.int .i64 x, .int .i64 y, .int .i64 (d : Int), .int .i64 0, .bool l] 25 (0, 0))) := heap_alloc_new w _
  have z0 : ((n : Int) == 0) = false := by simp only [beq_eq_false_iff_ne, ne_eq]; omega
  have hch := implChannels 0
  rw [show chan 0 = 1 from rfl] at hch
  have hsm := fun W (h : Came W a n f) => samples_any a n cap d f W h hn hd
  clear hC h1
  by_cases hN : n = 1
  · have en : ((n : Int) == 1) = true := by rw [hN]; rfl
    have HN := hid_of hN
    clear hN
    go_enter Try.func70, Try.ntmps70
    go_wp2_with fail
    generalize w.alloc (.cells #[.int .i64 x, .int .i64 y, .int .i64 (d : Int), .int .i64 0, .bool l] 25) = W1 at HX HB ⊢
    obtain ⟨k0, k1, k2, k3, k4⟩ := head_cells HX.out
    have lx := block_lt HX.out
    refine (hch W1).mono ?_
    rintro e w1 ⟨rfl, rfl⟩
    go_wp2_with fail
    refine (hsm w1 (HC.out.called HB.out)).mono ?_
    rintro e w2 ⟨b, rfl, hb, rfl⟩
    have HBB := hid_of hb
    clear hb
    go_wp2_with fail
    go_ret
    exact ⟨b, rfl, by rw [HBB.out]; exact ⟨fun k => ⟨HN.out, k⟩, fun k => k.2⟩, HB.out⟩
  · have en : ((n : Int) == 1) = false := by simp only [beq_eq_false_iff_ne, ne_eq]; omega
    have HN := hid_of hN
    clear hN
    go_enter Try.func70, Try.ntmps70
    go_wp2_with fail
    refine (hch _).mono ?_
    rintro e w1 ⟨rfl, rfl⟩
    go_wp2_with fail
    go_ret
    exact ⟨false, rfl, by simp [HN.out], HB.out⟩
set_option maxHeartbeats 1600000 in
theorem implClearOk_full (x y table : Int) (d : Nat) (l : Bool) (a : Option Addr) (n cap : Nat) (f : Nat → Int) (w : World) (hC : Came w a n f) (hn : n ≤ 1048576) (h1 : 1 ≤ n) (hd : d ≤ 16) :
    Calls Try.prog 70 #[.agg #[.int .i64 x, .int .i64 y, .int .i64 (d : Int), .int .i64 2, .bool l], .int .i64 table, .slice a n cap] w (Flag (n = 3 ∧ Fit12 f n d) w) := by
  have HC := hid_of hC
  have HB := hid_of (bstart w (.cells #[.int .i64 x, .int .i64 y, .int .i64 (d : Int), .int .i64 2, .bool l] 25))
  have HX : Hid ((w.alloc (.cells #[.int .i64 x, .int .i64 y, .int .i64 (d : Int), .int .i64 2, .bool l] 25)).heap[w.heap.size]? = some (.cells #[.int .i64 x, .int .i64 y, .int .i64 (d : Int), .int .i64 2, .bool l] 25 (0, 0))) := heap_alloc_new w _
  have z0 : ((n : Int) == 0) = false := by simp only [beq_eq_false_iff_ne, ne_eq]; omega
  have hch := implChannels 2
  rw [show chan 2 = 3 from rfl] at hch
  have hsm := fun W (h : Came W a n f) => samples_any a n cap d f W h hn hd
  clear hC h1
  by_cases hN : n = 3
  · have en : ((n : Int) == 3) = true := by rw [hN]; rfl
    have HN := hid_of hN
    clear hN
    go_enter Try.func70, Try.ntmps70
    go_wp2_with fail
    generalize w.alloc (.cells #[.int .i64 x, .int .i64 y, .int .i64 (d : Int), .int .i64 2, .bool l] 25) = W1 at HX HB ⊢
    obtain ⟨k0, k1, k2, k3, k4⟩ := head_cells HX.out
    have lx := block_lt HX.out
    refine (hch W1).mono ?_
    rintro e w1 ⟨rfl, rfl⟩
    go_wp2_with fail
    refine (hsm w1 (HC.out.called HB.out)).mono ?_
    rintro e w2 ⟨b, rfl, hb, rfl⟩
    have HBB := hid_of hb
    clear hb
    go_wp2_with fail
    go_ret
    exact ⟨b, rfl, by rw [HBB.out]; exact ⟨fun k => ⟨HN.out, k⟩, fun k => k.2⟩, HB.out⟩
  · have en : ((n : Int) == 3) = false := by simp only [beq_eq_false_iff_ne, ne_eq]; omega
    have HN := hid_of hN
    clear hN
    go_enter Try.func70, Try.ntmps70
    go_wp2_with fail
    refine (hch _).mono ?_
    rintro e w1 ⟨rfl, rfl⟩
    go_wp2_with fail
    go_ret
    exact ⟨false, rfl, by simp [HN.out], HB.out⟩
set_option maxHeartbeats 1600000 in
theorem implClearOk_table (x y table : Int) (d : Nat) (l : Bool) (a : Option Addr) (n cap : Nat) (f : Nat → Int) (w : World) (hC : Came w a n f) (hn : n ≤ 1048576) (h1 : 1 ≤ n) :
    Calls Try.prog 70 #[.agg #[.int .i64 x, .int .i64 y, .int .i64 (d : Int), .int .i64 3, .bool l], .int .i64 table, .slice a n cap] w (Flag ((n : Int) ≤ table ∧ Fit12 f n 8) w) := by
  have HC := hid_of hC
  have HB := hid_of (bstart w (.cells #[.int .i64 x, .int .i64 y, .int .i64 (d : Int), .int .i64 3, .bool l] 25))
  have z0 : ((n : Int) == 0) = false := by simp only [beq_eq_false_iff_ne, ne_eq]; omega
  have k8 : ((8 : Nat) : Int) = 8 := rfl
  have hsm := fun W (h : Came W a n f) => samples_any a n cap 8 f W h hn (by omega)
  rw [k8] at hsm
  clear hC h1
  by_cases hN : (n : Int) ≤ table
  · have HN := hid_of hN
    have dt : decide ((n : Int) ≤ table) = true := decide_eq_true hN
    clear hN
    go_enter Try.func70, Try.ntmps70
    go_wp2_with fail
    generalize w.alloc (.cells #[.int .i64 x, .int .i64 y, .int .i64 (d : Int), .int .i64 3, .bool l] 25) = W1 at HB ⊢
    refine (hsm W1 (HC.out.called HB.out)).mono ?_
    rintro e w2 ⟨b, rfl, hb, rfl⟩
    have HBB := hid_of hb
    clear hb
    go_wp2_with fail
    go_ret
    exact ⟨b, rfl, by rw [HBB.out]; exact ⟨fun k => ⟨HN.out, k⟩, fun k => k.2⟩, HB.out⟩
  · have HN := hid_of hN
    have dt : decide ((n : Int) ≤ table) = false := decide_eq_false hN
    clear hN
    go_enter Try.func70, Try.ntmps70
    go_wp2_with fail
    go_ret
    exact ⟨false, rfl, ⟨(fun e => by cases e), fun k => absurd k.1 (by have := HN.out; omega)⟩, HB.out⟩
theorem implClearOk_other (x y c table : Int) (d : Nat) (l : Bool) (a : Option Addr) (n cap : Nat) (w : World) (h1 : 1 ≤ n) (n0 : ¬ c = 0) (n2 : ¬ c = 2) (n3 : ¬ c = 3) :
    Calls Try.prog 70 #[.agg #[.int .i64 x, .int .i64 y, .int .i64 (d : Int), .int .i64 c, .bool l], .int .i64 table, .slice a n cap] w (Flag False w) := by
  have HB := hid_of (bstart w (.cells #[.int .i64 x, .int .i64 y, .int .i64 (d : Int), .int .i64 c, .bool l] 25))
  have z0 : ((n : Int) == 0) = false := by simp only [beq_eq_false_iff_ne, ne_eq]; omega
  have c0 : (c == 0) = false := by simp only [beq_eq_false_iff_ne, ne_eq]; exact n0
  have c2 : (c == 2) = false := by simp only [beq_eq_false_iff_ne, ne_eq]; exact n2
  have c3 : (c == 3) = false := by simp only [beq_eq_false_iff_ne, ne_eq]; exact n3
  clear h1 n0 n2 n3
  go_enter Try.func70, Try.ntmps70
  go_wp2_with fail
  go_ret
  exact ⟨false, rfl, by simp, HB.out⟩
theorem implClearOk (x y c table : Int) (d : Nat) (l : Bool) (a : Option Addr) (n cap : Nat) (f : Nat → Int) (w : World) (hC : Came w a n f) (hn : n ≤ 1048576) (h1 : 1 ≤ n) (hd : d ≤ 16) :
    Calls Try.prog 70 #[.agg #[.int .i64 x, .int .i64 y, .int .i64 (d : Int), .int .i64 c, .bool l], .int .i64 table, .slice a n cap] w (Flag (ClearR (d : Int) c table n f) w) := by
  have ed : ((d : Int)).toNat = d := Int.toNat_natCast d
  by_cases h0 : c = 0
  · subst h0
    refine (implClearOk_gray x y table d l a n cap f w hC hn h1 hd).mono fun e w' h => h.congr ?_
    unfold ClearR
    rw [ed]
    constructor
    · rintro ⟨e, k⟩
      exact ⟨h1, .inl ⟨rfl, e, k⟩⟩
    · rintro ⟨_, ⟨_, e, k⟩ | ⟨q, _⟩ | ⟨q, _⟩⟩
      · exact ⟨e, k⟩
      · omega
      · omega
  by_cases h2 : c = 2
  · subst h2
    refine (implClearOk_full x y table d l a n cap f w hC hn h1 hd).mono fun e w' h => h.congr ?_
    unfold ClearR
    rw [ed]
    constructor
    · rintro ⟨e, k⟩
      exact ⟨h1, .inr (.inl ⟨rfl, e, k⟩)⟩
    · rintro ⟨_, ⟨q, _⟩ | ⟨_, e, k⟩ | ⟨q, _⟩⟩
      · omega
      · exact ⟨e, k⟩
      · omega
  by_cases h3 : c = 3
  · subst h3
    refine (implClearOk_table x y table d l a n cap f w hC hn h1).mono fun e w' h => h.congr ?_
    unfold ClearR
    constructor
    · rintro ⟨e, k⟩
      exact ⟨h1, .inr (.inr ⟨rfl, e, k⟩)⟩
    · rintro ⟨_, ⟨q, _⟩ | ⟨q, _⟩ | ⟨_, e, k⟩⟩
      · omega
      · omega
      · exact ⟨e, k⟩
  · refine (implClearOk_other x y c table d l a n cap w h1 h0 h2 h3).mono fun e w' h => h.congr ?_
    unfold ClearR
    constructor
    · exact fun k => k.elim
    · rintro ⟨_, ⟨q, _⟩ | ⟨q, _⟩ | ⟨q, _⟩⟩
      · omega
      · omega
      · omega
set_option maxHeartbeats 1600000 in
theorem hasClear_any (x y c table d : Int) (l : Bool) (a : Option Addr) (n cap : Nat) (f : Nat → Int) (w : World) (hC : Came w a n f) (hn : n ≤ 1048576) :
    Calls Try.prog 47 #[.agg #[.int .i64 x, .int .i64 y, .int .i64 d, .int .i64 c, .bool l], .int .i64 table, .slice a n cap] w (Flag (HeadR x y d c ∧ ClearR d c table n f) w) := by
  have hk := implHeadOk x y d c l
  have HC := hid_of hC
  have HX : Hid ((w.alloc (.cells #[.int .i64 x, .int .i64 y, .int .i64 d, .int .i64 c, .bool l] 25)).heap[w.heap.size]? = some (.cells #[.int .i64 x, .int .i64 y, .int .i64 d, .int .i64 c, .bool l] 25 (0, 0))) := heap_alloc_new w _
  have HB := hid_of (bstart w (.cells #[.int .i64 x, .int .i64 y, .int .i64 d, .int .i64 c, .bool l] 25))
  by_cases hR : HeadR x y d c
  · rw [decide_eq_true hR] at hk
    have h5 := five_range (depth_five hR.2.2)
    by_cases h0 : n = 0
    · have z0 : decide ((0 : Int) < (n : Int)) = false := decide_eq_false (by omega)
      have z1 : decide (0 < n) = false := decide_eq_false (by omega)
      have z2 : ¬ 0 < n := by omega
      have HN : Hid (¬ ClearR d c table n f) := fun h => by have := h.1; omega
      clear hC hR h0 h5
      go_enter Try.func47, Try.ntmps47
      go_wp2_with fail
      refine (hk _).mono ?_
      rintro e w1 ⟨rfl, hB1⟩
      have HB1 := hid_of (bnext HB.out hB1)
      clear hB1
      go_wp2_with fail
      go_ret
      exact ⟨false, rfl, by simp [HN.out], HB1.out⟩
    · have z0 : decide ((0 : Int) < (n : Int)) = true := decide_eq_true (by omega)
      have z1 : decide (0 < n) = true := decide_eq_true (by omega)
      have z2 : 0 < n := by omega
      have hco : ∀ W, Came W a n f → Calls Try.prog 70 #[.agg #[.int .i64 x, .int .i64 y, .int .i64 d, .int .i64 c, .bool l], .int .i64 table, .slice a n cap] W (Flag (ClearR d c table n f) W) := fun W h => by
        obtain ⟨d, rfl⟩ := Int.eq_ofNat_of_zero_le (show 0 ≤ d by omega)
        exact implClearOk x y c table d l a n cap f W h hn (by omega) (by omega)
      have HR := hid_of hR
      clear hC hR h0 h5
      go_enter Try.func47, Try.ntmps47
      go_wp2_with fail
      refine (hk _).mono ?_
      rintro e w1 ⟨rfl, hB1⟩
      have HX1 := hid_of ((hB1.block _ (block_lt HX.out)).trans HX.out)
      have HB1 := hid_of (bnext HB.out hB1)
      clear hB1 HX HB hk
      obtain ⟨k0, k1, k2, k3, k4⟩ := head_cells HX1.out
      have lx := block_lt HX1.out
      go_wp2_with fail
      refine (hco w1 (HC.out.called HB1.out)).mono ?_
      rintro e w2 ⟨b, rfl, hb, hB2⟩
      have HBB := hid_of hb
      have HB2 := hid_of (bnext HB1.out hB2)
      clear hB2 HX1 HB1 hco hb k0 k1 k2 k3 k4 lx
      go_wp2_with fail
      go_ret
      exact ⟨b, rfl, by rw [HBB.out]; exact ⟨fun k => ⟨HR.out, k⟩, fun k => k.2⟩, HB2.out⟩
  · rw [decide_eq_false hR] at hk
    have HN := hid_of hR
    clear hC hR
    go_enter Try.func47, Try.ntmps47
    go_wp2_with fail
    refine (hk _).mono ?_
    rintro e w1 ⟨rfl, hB1⟩
    have HB1 := hid_of (bnext HB.out hB1)
    clear hB1
    go_wp2_with fail
    go_ret
    exact ⟨false, rfl, by simp [HN.out], HB1.out⟩
set_option maxHeartbeats 1600000 in
theorem implClearText (x y c table : Int) (l : Bool) (d : Int) (a : Option Addr) (n cap : Nat) (f : Nat → Int) (w : World) (hC : Came w a n f) (hn : n ≤ 1048576) :
    Calls Try.prog 18 #[.agg #[.int .i64 x, .int .i64 y, .int .i64 d, .int .i64 c, .bool l], .int .i64 table, .slice a n cap] w (ClrPost x y d c table n f w) := by
  have hh := fun W (h : Came W a n f) => hasClear_any x y c table d l a n cap f W h hn
  have HC := hid_of hC
  have HX : Hid ((w.alloc (.cells #[.int .i64 x, .int .i64 y, .int .i64 d, .int .i64 c, .bool l] 25)).heap[w.heap.size]? = some (.cells #[.int .i64 x, .int .i64 y, .int .i64 d, .int .i64 c, .bool l] 25 (0, 0))) := heap_alloc_new w _
  have HB := hid_of (bstart w (.cells #[.int .i64 x, .int .i64 y, .int .i64 d, .int .i64 c, .bool l] 25))
  clear hC
  by_cases hR : HeadR x y d c ∧ ClearR d c table n f
  · have HR := hid_of hR
    have hfit := clear_fit hR.1.2.2 hR.2
    have HT : Hid (packT f n (clrD c) = clrT c f n) := clear_packed hfit
    have HFIT := hid_of hfit
    have hD : Five (clrD c : Int) := by
      unfold clrD Five
      split <;> omega
    have hD2 : clrD c ≤ 16 := by
      unfold clrD
      split <;> omega
    have hcd := clearDepth_any c
    obtain ⟨k, hk⟩ : ∃ k, k = clrD c := ⟨_, rfl⟩
    rw [← hk] at HT HFIT hD hD2 hcd
    have HD := hid_of hD
    have hnd : n * k ≤ 1048576 * 16 := Nat.mul_le_mul hn hD2
    obtain ⟨q, hq⟩ : ∃ q, q = n * k := ⟨_, rfl⟩
    have hqi : (n : Int) * (k : Int) = (q : Int) := by rw [hq]; simp
    rw [← hq] at hnd
    obtain ⟨NB, hNB⟩ : ∃ NB, NB = (q + 7) / 8 := ⟨_, rfl⟩
    have hq1 : q ≤ 8 * NB ∧ 8 * NB ≤ q + 7 := by omega
    have hf := fun W => rowFor_any (q : Int) W (by omega) (by omega)
    rw [show ((q : Int) + 7) / 8 = (NB : Int) by omega] at hf
    have wq : IntKind.i64.wrap (q : Int) = (q : Int) := by rw [IntKind.wrap_i64]; omega
    have HQ := hid_of hq
    have HNB := hid_of hNB
    have HOLD : Hid (∀ g o, a = some ⟨g, o, none⟩ → n = 0 ∨ g < w.heap.size) := fun g o ha => by
      rcases HC.out with h0 | ⟨g', off, hg, hl, -⟩
      · exact .inl h0
      · rw [hg] at ha
        cases ha
        exact .inr hl
    clear hR hfit hD hk hq hNB
    go_enter Try.func18, Try.ntmps18
    go_wp2_with fail
    generalize w.alloc (.cells #[.int .i64 x, .int .i64 y, .int .i64 d, .int .i64 c, .bool l] 25) = W1 at HX HB ⊢
    refine (hh W1 (HC.out.called HB.out)).mono ?_
    rintro e w1 ⟨b, rfl, hb, hB1⟩
    obtain rfl := hb.mpr HR.out
    have HX1 := hid_of ((hB1.block _ (block_lt HX.out)).trans HX.out)
    have HB1 := hid_of (bnext HB.out hB1)
    clear hB1 HX HB hh hb
    obtain ⟨k0, k1, k2, k3, k4⟩ := head_cells HX1.out
    have lx := block_lt HX1.out
    go_wp2_with fail
    refine (hcd _).mono ?_
    rintro e w2 ⟨rfl, rfl⟩
    go_wp2_with fail
    refine (hf _).mono ?_
    rintro e w4 ⟨rfl, rfl⟩
    clear k0 k1 k2 k3 k4 lx HX1
    have hmk := make_bytes12 w4 NB (by omega)
    have hO5 : BFn (w4.alloc (.cells (madeCells #[Value.int .u8 0] NB) 5)) w.heap.size w4.heap.size NB NB (fun _ => 0) := BFn.made (base := w.heap.size) w4 NB (by unfold maxLen; omega) HB1.out.size
    have hC5 : Came (w4.alloc (.cells (madeCells #[Value.int .u8 0] NB) 5)) a n f := (HC.out.called HB1.out).called (bstart _ _)
    have HB5 : Hid (Below w.heap.size w (w4.alloc (.cells (madeCells #[Value.int .u8 0] NB) 5))) := bnext HB1.out (bstart _ _)
    have hGw : w.heap.size ≤ w4.heap.size := HB1.out.size
    generalize w4.alloc (.cells (madeCells #[Value.int .u8 0] NB) 5) = w5 at hmk hO5 hC5 HB5
    generalize w4.heap.size = G at hmk hO5 hGw
    have hp : Calls Try.prog 50 #[.slice (some ⟨G, 0, none⟩) NB NB, .slice a n cap, .int .i64 (k : Int)] w5 (PackIntoPost f n k NB w.heap.size G NB w5) := by
      refine packInto_any a n cap k w.heap.size G NB NB f (fun _ => 0) w5 hC5 HD.out hn HFIT.out (by rw [← HQ.out]; exact HNB.out) hO5 fun g o ha => ?_
      rcases HOLD.out g o ha with h1 | h1
      · exact .inl h1
      · exact .inr (by omega)
    clear hO5 hC5
    go_wp2_with fail
    refine hp.mono ?_
    rintro e w6 ⟨rfl, ⟨h, hO, hhp⟩, hBB⟩
    clear hp hmk
    have hcv := hO.text (packL f n k) (by rw [HNB.out, HQ.out]; exact packN_length _ _ _ _) (fun i hi => by
      rw [hhp i hi]
      refine packN_get f n k _ i ?_
      rw [HNB.out, HQ.out] at hi
      exact hi)
    have HBE : Hid (Below w.heap.size w w6) := hBB.below HB5.out hGw HB5.out.size
    have HTX : Hid (strOfNums (packL f n k) = clrT c f n) := HT.out
    clear hhp hBB hO
    generalize strOfNums (packL f n k) = X at hcv HTX
    go_wp2_with fail
    exact bodyPost_ret (v := .tuple #[.string X, .bool true]) (by simp [results, Try.results18, go_sem]) rfl ⟨.inl ⟨HR.out, by rw [HTX.out]⟩, HBE.out⟩
  · have HN := hid_of hR
    clear hR
    go_enter Try.func18, Try.ntmps18
    go_wp2_with fail
    generalize w.alloc (.cells #[.int .i64 x, .int .i64 y, .int .i64 d, .int .i64 c, .bool l] 25) = W1 at HX HB ⊢
    refine (hh W1 (HC.out.called HB.out)).mono ?_
    rintro e w1 ⟨b, rfl, hb, hB1⟩
    have hbf : b = false := by
      cases b
      · rfl
      · exact absurd (hb.mp rfl) HN.out
    subst hbf
    have HB1 := hid_of (bnext HB.out hB1)
    clear hB1 HX HB hh hb
    go_wp2_with fail
    exact bodyPost_ret (v := .tuple #[.string ⟨#[]⟩, .bool false]) (by simp [results, Try.results18, go_sem]) rfl ⟨.inr ⟨HN.out, rfl⟩, HB1.out⟩
end Go.Proofs.Ytcnlcbkgbcnloaa
