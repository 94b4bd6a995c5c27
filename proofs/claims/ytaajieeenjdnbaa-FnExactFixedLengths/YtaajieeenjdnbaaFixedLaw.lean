/-
  Proved here: the program's FixedLengths answers as the document's model does, it writes into nothing that was there, and its answers own their memory, each apart from the other. No condition.
-/
import Derived.Test.YtaajieeenjdnbaaRows
import Derived.Test.YtaajieeenjdnbaaPrFixed
import Derived.Test.YtaajieeenjdnbaaNumSl
import Derived.Test.YtaajieeenjdnbaaIntsWalks
import Derived.Test.YtaajieeenjdnbaaMarkWalks
namespace Go.Proofs.Ytaajieeenjdnbaa
open Go.RowKit Go.Joins InfMath

/-- What lasts through the law: all that was there; the model's lists, in blocks below B; the program's two lists, in two blocks from B on. -/
def FxKeep (W w : World) (B : Nat) (a0 b0 : Option Addr) (g1 g2 c1 d1 : Nat) (h1 h2 : Nat → Int) : Prop :=
  Below W.heap.size W w ∧ (Came w a0 288 fixed1 ∧ Came w b0 32 fixed2) ∧ ((∀ g off, a0 = some ⟨g, off, none⟩ → g < B) ∧ ∀ g off, b0 = some ⟨g, off, none⟩ → g < B) ∧ W.heap.size ≤ B ∧ IOwn w B g1 288 c1 h1 ∧ IOwn w B g2 32 d1 h2 ∧ g1 ≠ g2
theorem FxKeep.next {W w w' : World} {B : Nat} {a0 b0 : Option Addr} {g1 g2 c1 d1 : Nat} {h1 h2 : Nat → Int} (k : FxKeep W w B a0 b0 g1 g2 c1 d1 h1 h2) (hb : Below w.heap.size w w') : FxKeep W w' B a0 b0 g1 g2 c1 d1 h1 h2 := by
  obtain ⟨k1, k2, k3, k4, k5, k6, k7⟩ := k
  exact ⟨bnext k1 hb, ⟨k2.1.called hb, k2.2.called hb⟩, k3, k4, k5.called hb, k6.called hb, k7⟩
theorem FxKeep.mark1 {W w w' : World} {B : Nat} {a0 b0 : Option Addr} {g1 g2 c1 d1 : Nat} {h1 h2 h : Nat → Int} (k : FxKeep W w B a0 b0 g1 g2 c1 d1 h1 h2) (hO : IOwn w' B g1 288 c1 h) (hg : w.grownBy w' (some g1)) : FxKeep W w' B a0 b0 g1 g2 c1 d1 h h2 := by
  obtain ⟨k1, k2, k3, k4, k5, k6, k7⟩ := k
  have hr : ∀ k, some g1 = some k → B ≤ k := fun k hk => by cases hk; exact k5.base_le
  exact ⟨k1.grown hg k1.size (fun k hk => Nat.le_trans k4 (hr k hk)), ⟨k2.1.grown k3.1 hr hg, k2.2.grown k3.2 hr hg⟩, k3, k4, hO, k6.grown hg (fun e => k7 (Option.some.inj e)), k7⟩
theorem FxKeep.mark2 {W w w' : World} {B : Nat} {a0 b0 : Option Addr} {g1 g2 c1 d1 : Nat} {h1 h2 h : Nat → Int} (k : FxKeep W w B a0 b0 g1 g2 c1 d1 h1 h2) (hO : IOwn w' B g2 32 d1 h) (hg : w.grownBy w' (some g2)) : FxKeep W w' B a0 b0 g1 g2 c1 d1 h1 h := by
  obtain ⟨k1, k2, k3, k4, k5, k6, k7⟩ := k
  have hr : ∀ k, some g2 = some k → B ≤ k := fun k hk => by cases hk; exact k6.base_le
  exact ⟨k1.grown hg k1.size (fun k hk => Nat.le_trans k4 (hr k hk)), ⟨k2.1.grown k3.1 hr hg, k2.2.grown k3.2 hr hg⟩, k3, k4, k5.grown hg (fun e => k7 (Option.some.inj e).symm), hO, k7⟩
theorem sl_first {w : World} {S : Nat} {a : Option Addr} {n c : Nat} {f : Nat → Int} (h : NumRow w S (.slice a n c) (firstJ f n)) : SL w S a n c f := by
  rcases sl_of_num h (firstJ_length f n).symm with q | ⟨g, e, ho⟩
  · exact .inl q
  · exact .inr ⟨g, e, ho.congr fun i hi => firstJ_getD f hi⟩
theorem sl_block {w : World} {S : Nat} {a : Option Addr} {n c : Nat} {f : Nat → Int} (h : SL w S a n c f) (hn : 0 < n) : ∃ g, a = some ⟨g, 0, none⟩ ∧ IOwn w S g n c f := by
  rcases h with h | h
  · omega
  · exact h
theorem sl_low {w : World} {S : Nat} {a : Option Addr} {n c : Nat} {f : Nat → Int} (h : SL w S a n c f) (hn : 0 < n) : ∀ g off, a = some ⟨g, off, none⟩ → g < w.heap.size := fun g off e => by
  obtain ⟨g', e', ho⟩ := sl_block h hn
  rw [e'] at e
  cases e
  exact ho.lt
theorem iown_came {w : World} {S g n c : Nat} {f : Nat → Int} (h : IOwn w S g n c f) : Came w (some ⟨g, 0, none⟩) n f := h.sl.came
set_option maxRecDepth 100000 in
set_option maxHeartbeats 3200000 in
theorem FnExactFixedLengths_walk (w : World) :
    Calls Try.prog 3 #[] w fun e w' => e = .returned (.bool true) ∧ Below w.heap.size w w' := by
  go_enter Try.func3, Try.ntmps3
  go_wp2_with fail
  refine (specFixed w).mono ?_
  rintro e w1 ⟨v1, v2, K0, rfl, r1, r2, _, b1, _, hK0⟩
  obtain ⟨a0, c0, hv1, _⟩ := r1.form
  obtain ⟨b0, d0, hv2, _⟩ := r2.form
  rw [firstJ_length] at hv1 hv2
  subst hv1
  subst hv2
  have H1 : Hid (Came w1 a0 288 fixed1 ∧ Came w1 b0 32 fixed2 ∧ (∀ g off, a0 = some ⟨g, off, none⟩ → g < w1.heap.size) ∧ (∀ g off, b0 = some ⟨g, off, none⟩ → g < w1.heap.size) ∧ Below w.heap.size w w1) := ⟨(sl_first r1).came, (sl_first r2).came, sl_low (sl_first r1) (by omega), sl_low (sl_first r2) (by omega), b1⟩
  clear r1 r2 b1 hK0
  go_wp2_with fail
  refine (implFixed w1).mono ?_
  rintro e w2 ⟨a1, c1, b1, d1, K, rfl, r3, r4, r5, b3, r6⟩
  obtain ⟨g1, rfl, o1⟩ := sl_block (sl_first r3) (by omega)
  obtain ⟨g2, rfl, o2⟩ := sl_block (sl_first r4) (by omega)
  have HS2 : Hid (FxKeep w w2 w1.heap.size a0 b0 g1 g2 c1 d1 fixed1 fixed2) := ⟨bnext H1.out.2.2.2.2 b3, ⟨H1.out.1.called b3, H1.out.2.1.called b3⟩, ⟨H1.out.2.2.1, H1.out.2.2.2.1⟩, H1.out.2.2.2.2.size, o1, o2.mono r6, by have h1 := r5 g1 rfl; have h2 := o2.base_le; omega⟩
  clear r3 r4 r5 b3 r6 H1 o1 o2
  go_wp2_with fail
  refine (eqIntS_same _ _ 288 _ _ fixed1 w2 (iown_came HS2.out.2.2.2.2.1) HS2.out.2.1.1 (by omega)).mono ?_
  rintro e w3 ⟨rfl, hB⟩
  have HS3 := hid_of (HS2.out.next hB)
  clear hB HS2
  go_wp2_with fail
  refine (eqIntS_same _ _ 32 _ _ fixed2 w3 (iown_came HS3.out.2.2.2.2.2.1) HS3.out.2.1.2 (by omega)).mono ?_
  rintro e w4 ⟨rfl, hB⟩
  have HS4 := hid_of (HS3.out.next hB)
  clear hB HS3
  go_wp2_with fail
  refine (markIntS_own _ g1 288 c1 fixed1 1 w4 HS4.out.2.2.2.2.1 (by omega) (by omega) (by omega)).mono ?_
  rintro e w5 ⟨rfl, hO, hG⟩
  have HS5 := hid_of (HS4.out.mark1 hO hG)
  clear hO hG HS4
  go_wp2_with fail
  refine (markIntS_own _ g2 32 d1 fixed2 _ w5 HS5.out.2.2.2.2.2.1 (by omega) (by omega) (by omega)).mono ?_
  rintro e w6 ⟨rfl, hO, hG⟩
  have HS6 := hid_of (HS5.out.mark2 hO hG)
  clear hO hG HS5
  go_wp2_with fail
  refine (heldIntS_same _ 288 _ _ w6 (iown_came HS6.out.2.2.2.2.1) (by omega) (by omega) (by omega)).mono ?_
  rintro e w7 ⟨rfl, hB⟩
  have HS7 := hid_of (HS6.out.next hB)
  clear hB HS6
  go_wp2_with fail
  refine (heldIntS_same _ 32 _ _ w7 (iown_came HS7.out.2.2.2.2.2.1) (by omega) (by omega) (by omega)).mono ?_
  rintro e w8 ⟨rfl, hB⟩
  have HS8 := hid_of (HS7.out.next hB)
  clear hB HS7
  go_wp2_with fail
  refine (implFixed w8).mono ?_
  rintro e w9 ⟨a2, c2, b2, d2, K2, rfl, r3, r4, _, b3, _⟩
  have HS9 := hid_of (HS8.out.next b3)
  have HN : Hid (Came w9 a2 288 fixed1 ∧ Came w9 b2 32 fixed2) := ⟨(sl_first r3).came, (sl_first r4).came⟩
  clear r3 r4 b3 HS8
  go_wp2_with fail
  refine (eqIntS_same _ _ 288 _ _ fixed1 w9 HN.out.1 HS9.out.2.1.1 (by omega)).mono ?_
  rintro e w10 ⟨rfl, hB⟩
  have HS10 := hid_of (HS9.out.next hB)
  have HM := hid_of (HN.out.2.called hB)
  clear hB HN HS9
  go_wp2_with fail
  refine (eqIntS_same _ _ 32 _ _ fixed2 w10 HM.out HS10.out.2.1.2 (by omega)).mono ?_
  rintro e w11 ⟨rfl, hB⟩
  have HS11 := hid_of (HS10.out.next hB)
  clear hB HM HS10
  go_wp2_with fail
  refine (heldIntS_same _ 288 _ _ w11 (iown_came HS11.out.2.2.2.2.1) (by omega) (by omega) (by omega)).mono ?_
  rintro e w12 ⟨rfl, hB⟩
  have HS12 := hid_of (HS11.out.next hB)
  clear hB HS11
  go_wp2_with fail
  refine (heldIntS_same _ 32 _ _ w12 (iown_came HS12.out.2.2.2.2.2.1) (by omega) (by omega) (by omega)).mono ?_
  rintro e w13 ⟨rfl, hB⟩
  have HS13 := hid_of (HS12.out.next hB)
  clear hB HS12
  go_wp2_with fail
  go_ret
  exact ⟨rfl, HS13.out.1⟩
end Go.Proofs.Ytaajieeenjdnbaa
