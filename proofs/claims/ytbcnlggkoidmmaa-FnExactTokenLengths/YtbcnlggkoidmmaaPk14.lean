/-
  The law FnExactTokenLengths over what the program answers.
  The symbols of tokens, in order: each by the first code or the second, with its extra bits. Nothing here speaks of the program.
  How often each symbol is told. Nothing here speaks of the program.
  The symbols of lengths and distances as the program tells them: by the number's own bits. Nothing here speaks of the program.
-/
import Derived.Test.YtbcnlggkoidmmaaRows
import Derived.Test.YtbcnlggkoidmmaaPk01
import Derived.Test.YtbcnlggkoidmmaaPk02
import Derived.Test.YtbcnlggkoidmmaaPk03
import Derived.Test.YtbcnlggkoidmmaaPk04
import Derived.Test.YtbcnlggkoidmmaaPk05
import Derived.Test.YtbcnlggkoidmmaaPk07
import Derived.Test.YtbcnlggkoidmmaaPk13
import Derived.WalkKit
import Derived.ProofKit
import Derived.WalkLawsBesides
import Derived.Below
import Derived.Lib.SmallJoins
import Derived.Lib.BitFns
namespace Go.Proofs.Ytbcnlggkoidmmaa
open Go.RowKit Go.Joins TokMath TrimMath TokLenMath PackageMath

theorem SL.grown {w w' : World} {base : Nat} {a : Option Addr} {n cap : Nat} {f : Nat → Int} {row : Option Nat} (h : SL w base a n cap f) (hg : w.grownBy w' row) (hr : ∀ g, row = some g → a = some ⟨g, 0, none⟩ → n = 0) : SL w' base a n cap f := by
  rcases h with h | ⟨g, e, ho⟩
  · exact .inl h
  · by_cases h0 : n = 0
    · exact .inl h0
    · exact .inr ⟨g, e, ho.grown hg (fun q => h0 (hr g q e))⟩
theorem markIntS_at (base : Nat) (a : Option Addr) (n cap : Nat) (f : Nat → Int) (k : Int) (w : World) (hS : SL w base a n cap f) (hn : n ≤ 1048576) (hk0 : 0 ≤ k) (hk1 : k ≤ 1073741824) :
    Calls Try.prog 13 #[.slice a n cap, .int .i64 k] w fun e w' => e = .returned (.int .i64 (k + n)) ∧ SL w' base a n cap (fun j => k + j) ∧ ∃ row, (∀ g, row = some g → base ≤ g ∧ a = some ⟨g, 0, none⟩ ∧ n ≠ 0) ∧ w.grownBy w' row := by
  by_cases h0 : n = 0
  · subst h0
    refine (markIntS_none a cap k w).mono ?_
    rintro e w' ⟨rfl, rfl⟩
    exact ⟨by simp, .inl rfl, none, (fun g e => by cases e), ⟨rfl, rfl, rfl, Nat.le_refl _, fun _ _ _ => rfl⟩⟩
  · rcases hS with h | ⟨g, rfl, h⟩
    · exact absurd h h0
    · refine (markIntS_own base g n cap f k w h hn hk0 hk1).mono ?_
      rintro e w' ⟨rfl, hO, hG⟩
      exact ⟨rfl, hO.sl, some g, (fun q e => by cases e; exact ⟨h.base_le, rfl, h0⟩), hG⟩

/-- What lasts through the law: all that was there; the model's lists below B; the program's two lists behind it. -/
structure LK (W w : World) (B : Nat) (m1 m2 a1 a2 : Option Addr) (n1 n2 c1 c2 : Nat) (f1 f2 h1 h2 : Nat → Int) : Prop where
  bl : Below W.heap.size W w
  k1 : Came w m1 n1 f1
  k2 : Came w m2 n2 f2
  l1 : ∀ g off, m1 = some ⟨g, off, none⟩ → n1 = 0 ∨ g < B
  l2 : ∀ g off, m2 = some ⟨g, off, none⟩ → n2 = 0 ∨ g < B
  hB : W.heap.size ≤ B
  s1 : SL w (B + 1) a1 n1 c1 h1
  s2 : SL w (B + 1) a2 n2 c2 h2
  ne : a1 = a2 → n1 = 0 ∨ n2 = 0
theorem came_low {w w' : World} {a : Option Addr} {n B : Nat} {f : Nat → Int} {row : Option Nat} (h : Came w a n f) (hB : ∀ g off, a = some ⟨g, off, none⟩ → n = 0 ∨ g < B) (hr : ∀ k, row = some k → B ≤ k) (hg : w.grownBy w' row) : Came w' a n f := by
  by_cases h0 : n = 0
  · exact .inl h0
  · refine h.grown (B := B) (fun g off e => ?_) hr hg
    rcases hB g off e with q | q
    · exact absurd q h0
    · exact q
section
variable {W w w' : World} {B : Nat} {m1 m2 a1 a2 : Option Addr} {n1 n2 c1 c2 : Nat} {f1 f2 h1 h2 : Nat → Int}
theorem LK.next (k : LK W w B m1 m2 a1 a2 n1 n2 c1 c2 f1 f2 h1 h2) (hb : Below w.heap.size w w') : LK W w' B m1 m2 a1 a2 n1 n2 c1 c2 f1 f2 h1 h2 :=
  ⟨bnext k.bl hb, k.k1.called hb, k.k2.called hb, k.l1, k.l2, k.hB, k.s1.called hb, k.s2.called hb, k.ne⟩
theorem LK.turn {row : Option Nat} {q1 q2 : Nat → Int} (k : LK W w B m1 m2 a1 a2 n1 n2 c1 c2 f1 f2 h1 h2) (hg : w.grownBy w' row) (hr : ∀ g, row = some g → B ≤ g) (t1 : SL w' (B + 1) a1 n1 c1 q1) (t2 : SL w' (B + 1) a2 n2 c2 q2) : LK W w' B m1 m2 a1 a2 n1 n2 c1 c2 f1 f2 q1 q2 :=
  ⟨k.bl.grown hg k.bl.size (fun g e => Nat.le_trans k.hB (hr g e)), came_low k.k1 k.l1 hr hg, came_low k.k2 k.l2 hr hg, k.l1, k.l2, k.hB, t1, t2, k.ne⟩
/-- The block B itself turns. -/
theorem LK.arg (k : LK W w B m1 m2 a1 a2 n1 n2 c1 c2 f1 f2 h1 h2) (hg : w.grownBy w' (some B)) : LK W w' B m1 m2 a1 a2 n1 n2 c1 c2 f1 f2 h1 h2 := by
  refine k.turn hg (fun g e => by cases e; exact Nat.le_refl _) (k.s1.grown hg fun g e ha => ?_) (k.s2.grown hg fun g e ha => ?_)
  · cases e
    rcases k.s1 with h | ⟨g, e, ho⟩
    · exact h
    · rw [ha] at e
      cases e
      have := ho.base_le
      omega
  · cases e
    rcases k.s2 with h | ⟨g, e, ho⟩
    · exact h
    · rw [ha] at e
      cases e
      have := ho.base_le
      omega
theorem LK.first {row : Option Nat} {q : Nat → Int} (k : LK W w B m1 m2 a1 a2 n1 n2 c1 c2 f1 f2 h1 h2) (t : SL w' (B + 1) a1 n1 c1 q) (hr : ∀ g, row = some g → B + 1 ≤ g ∧ a1 = some ⟨g, 0, none⟩ ∧ n1 ≠ 0) (hg : w.grownBy w' row) : LK W w' B m1 m2 a1 a2 n1 n2 c1 c2 f1 f2 q h2 :=
  k.turn hg (fun g e => by have := (hr g e).1; omega) t (k.s2.grown hg fun g e ha => by
    obtain ⟨_, hb, hc⟩ := hr g e
    rcases k.ne (hb.trans ha.symm) with q | q
    · exact absurd q hc
    · exact q)
theorem LK.second {row : Option Nat} {q : Nat → Int} (k : LK W w B m1 m2 a1 a2 n1 n2 c1 c2 f1 f2 h1 h2) (t : SL w' (B + 1) a2 n2 c2 q) (hr : ∀ g, row = some g → B + 1 ≤ g ∧ a2 = some ⟨g, 0, none⟩ ∧ n2 ≠ 0) (hg : w.grownBy w' row) : LK W w' B m1 m2 a1 a2 n1 n2 c1 c2 f1 f2 h1 q :=
  k.turn hg (fun g e => by have := (hr g e).1; omega) (k.s1.grown hg fun g e ha => by
    obtain ⟨_, hb, hc⟩ := hr g e
    rcases k.ne (ha.trans hb.symm) with q | q
    · exact q
    · exact absurd q hc) t
end

set_option maxRecDepth 100000 in
set_option maxHeartbeats 6400000 in
theorem FnExactTokenLengths_at (n1 n2 : Nat) (f1 f2 : Nat → Int) (b : Bool) (a : Option Addr) (c m : Nat) (F : Nat → Tok) (w : World) (hn : m ≤ 1048576) (hC : TCame w a m F) (hn1 : n1 ≤ 1000) (hn2 : n2 ≤ 1000)
    (hP : ∀ g w, TCame w (some ⟨g, 0, none⟩) m F → Calls Try.prog 7 #[.slice (some ⟨g, 0, none⟩) m m] w fun e w' => ∃ a1 d1 a2 d2, e = .returned (.tuple #[.slice a1 n1 d1, .slice a2 n2 d2, .bool b]) ∧ SL w' 0 a1 n1 d1 f1 ∧ SL w' 0 a2 n2 d2 f2 ∧ Below w.heap.size w w')
    (hQ : ∀ g w, TCame w (some ⟨g, 0, none⟩) m F → Calls Try.prog 9 #[.slice (some ⟨g, 0, none⟩) m m] w fun e w' => ∃ a1 d1 a2 d2, e = .returned (.tuple #[.slice a1 n1 d1, .slice a2 n2 d2, .bool b]) ∧ SL w' w.heap.size a1 n1 d1 f1 ∧ SL w' w.heap.size a2 n2 d2 f2 ∧ (a1 = a2 → n1 = 0 ∨ n2 = 0) ∧ Below w.heap.size w w') :
    Calls Try.prog 3 #[.slice a m c] w fun e w' => e = .returned (.bool true) ∧ Below w.heap.size w w' := by
  have HC := hid_of hC
  have HP := hid_of hP
  have HQ := hid_of hQ
  have hbb : (b != b) = false := bne_self_eq_false b
  have k0 : ¬ (1048576 : Int) - (m : Int) < 0 := by omega
  have k1 : decide ((1048576 : Int) - (m : Int) < 0) = false := decide_eq_false (by omega)
  have k2 : decide ((1 : Int) + 3 * (m : Int) < 0) = false := decide_eq_false (by omega)
  have k3 : decide ((1 : Int) + (n1 : Int) < 0) = false := decide_eq_false (by omega)
  have k4 : decide ((1 : Int) + (n1 : Int) + (n2 : Int) < 0) = false := decide_eq_false (by omega)
  clear hC hP hQ
  have hsz : ∀ W, Calls Try.prog 6 #[.slice a m c, .int .i64 1048576] W fun e w' => e = .returned (.int .i64 (1048576 - (m : Int))) ∧ W = w' := fun W => by
    have h := szTokenS_any a m c 1048576 W (by omega) (by omega) (by omega)
    rw [if_pos (show (m : Int) ≤ 1048576 by omega)] at h
    exact h
  go_enter Try.func3, Try.ntmps3
  go_wp2_with fail
  refine (hsz _).mono ?_
  rintro e w1 ⟨rfl, rfl⟩
  clear hsz
  go_wp2_with fail
  refine (toTokenS_any a m c F _ HC.out hn).mono ?_
  rintro e w2 ⟨rfl, hO2, hB2⟩
  have HO2 := hid_of hO2
  have HB2 := hid_of hB2
  clear hO2 hB2
  go_wp2_with fail
  refine (HP.out _ _ HO2.out.came).mono ?_
  rintro e w3 ⟨m1, d1, m2, d2, rfl, hs1, hs2, hB3⟩
  have HB3 := hid_of (bnext HB2.out hB3)
  have HS3 := hid_of (And.intro hs1 hs2)
  clear hB3 HP hs1 hs2 HB2 HO2
  go_wp2_with fail
  refine (toTokenS_any a m c F _ (HC.out.called HB3.out) hn).mono ?_
  rintro e w4 ⟨rfl, hO4, hB4⟩
  have HO4 := hid_of hO4
  have HB4 := hid_of (bnext HB3.out hB4)
  have hX := hO4.lt
  have HS4 := hid_of (And.intro (HS3.out.1.came.called hB4) (HS3.out.2.came.called hB4))
  clear hO4 hB4
  go_wp2_with fail
  refine (HQ.out _ _ HO4.out.came).mono ?_
  rintro e w5 ⟨a1, c1, a2, c2, rfl, hs1, hs2, hne, hB5⟩
  have HO5 := hid_of (HO4.out.called hB5)
  have HL5 : Hid (LK w w5 w3.heap.size m1 m2 a1 a2 n1 n2 c1 c2 f1 f2 f1 f2) := by
    have hmono : ∀ {q : Option Addr} {n k : Nat} {f : Nat → Int}, SL w5 w4.heap.size q n k f → SL w5 (w3.heap.size + 1) q n k f := by
      intro q n k f h
      rcases h with h | ⟨g, e, ho⟩
      · exact .inl h
      · exact .inr ⟨g, e, ho.mono (by omega)⟩
    refine ⟨bnext HB4.out hB5, HS4.out.1.called hB5, HS4.out.2.called hB5, fun g off e => ?_, fun g off e => ?_, HB3.out.size, hmono hs1, hmono hs2, hne⟩
    · rcases HS3.out.1 with h | ⟨q, e2, ho⟩
      · exact .inl h
      · rw [e] at e2; cases e2; exact .inr ho.lt
    · rcases HS3.out.2 with h | ⟨q, e2, ho⟩
      · exact .inl h
      · rw [e] at e2; cases e2; exact .inr ho.lt
  clear hs1 hs2 hne hB5 HS3 HS4 HB3 HB4 HO4
  go_wp2_with fail
  refine (eqIntS_same _ _ n1 _ _ f1 w5 HL5.out.s1.came HL5.out.k1 (by omega)).mono ?_
  rintro e w6 ⟨rfl, hB⟩
  have HL6 := hid_of (HL5.out.next hB)
  have HO6 := hid_of (HO5.out.called hB)
  clear hB HL5 HO5
  go_wp2_with fail
  refine (eqIntS_same _ _ n2 _ _ f2 w6 HL6.out.s2.came HL6.out.k2 (by omega)).mono ?_
  rintro e w7 ⟨rfl, hB⟩
  have HL7 := hid_of (HL6.out.next hB)
  have HO7 := hid_of (HO6.out.called hB)
  clear hB HL6 HO6
  go_wp2_with fail
  refine (toTokenS_any a m c F w7 (HC.out.called HL7.out.bl) hn).mono ?_
  rintro e w8 ⟨rfl, hO, hB⟩
  have HL8 := hid_of (HL7.out.next hB)
  have HO8 := hid_of (HO7.out.called hB)
  have HN8 := hid_of hO
  clear hB hO HL7 HO7
  go_wp2_with fail
  refine (eqTokenS_same _ _ m m m F _ HO8.out.came HN8.out.came hn).mono ?_
  rintro e w9 ⟨rfl, hB⟩
  have HL9 := hid_of (HL8.out.next hB)
  have HO9 := hid_of (HO8.out.called hB)
  clear hB HL8 HO8 HN8
  go_wp2_with fail
  refine (markTokenS_own _ _ m m F 1 w9 HO9.out hn (by omega) (by omega)).mono ?_
  rintro e w10 ⟨rfl, _, hG⟩
  have HL10 := hid_of (HL9.out.arg hG)
  clear hG HL9 HO9
  go_wp2_with fail
  refine (eqIntS_same _ _ n1 _ _ f1 w10 HL10.out.s1.came HL10.out.k1 (by omega)).mono ?_
  rintro e w11 ⟨rfl, hB⟩
  have HL11 := hid_of (HL10.out.next hB)
  clear hB HL10
  go_wp2_with fail
  refine (eqIntS_same _ _ n2 _ _ f2 w11 HL11.out.s2.came HL11.out.k2 (by omega)).mono ?_
  rintro e w12 ⟨rfl, hB⟩
  have HL12 := hid_of (HL11.out.next hB)
  clear hB HL11
  go_wp2_with fail
  refine (markIntS_at _ a1 n1 c1 f1 1 w12 HL12.out.s1 (by omega) (by omega) (by omega)).mono ?_
  rintro e w13 ⟨rfl, hS, row, hr, hG⟩
  have HL13 := hid_of (HL12.out.first hS hr hG)
  clear hS hr hG HL12
  go_wp2_with fail
  refine (markIntS_at _ a2 n2 c2 f2 _ w13 HL13.out.s2 (by omega) (by omega) (by omega)).mono ?_
  rintro e w14 ⟨rfl, hS, row, hr, hG⟩
  have HL14 := hid_of (HL13.out.second hS hr hG)
  clear hS hr hG HL13
  go_wp2_with fail
  refine (heldIntS_same _ n1 _ _ w14 HL14.out.s1.came (by omega) (by omega) (by omega)).mono ?_
  rintro e w15 ⟨rfl, hB⟩
  have HL15 := hid_of (HL14.out.next hB)
  clear hB HL14
  go_wp2_with fail
  refine (heldIntS_same _ n2 _ _ w15 HL15.out.s2.came (by omega) (by omega) (by omega)).mono ?_
  rintro e w16 ⟨rfl, hB⟩
  have HL16 := hid_of (HL15.out.next hB)
  clear hB HL15
  go_wp2_with fail
  refine (toTokenS_any a m c F w16 (HC.out.called HL16.out.bl) hn).mono ?_
  rintro e w17 ⟨rfl, hO, hB⟩
  have HL17 := hid_of (HL16.out.next hB)
  have HO17 := hid_of hO
  clear hB hO HL16
  go_wp2_with fail
  refine (HQ.out _ _ HO17.out.came).mono ?_
  rintro e w18 ⟨b1, e1, b2, e2, rfl, hs1, hs2, _, hB⟩
  have HL18 := hid_of (HL17.out.next hB)
  have HS18 := hid_of (And.intro hs1.came hs2.came)
  clear hB hs1 hs2 HL17 HO17
  go_wp2_with fail
  refine (eqIntS_same _ _ n1 _ _ f1 w18 HS18.out.1 HL18.out.k1 (by omega)).mono ?_
  rintro e w19 ⟨rfl, hB⟩
  have HL19 := hid_of (HL18.out.next hB)
  have HS19 := hid_of (HS18.out.2.called hB)
  clear hB HL18 HS18
  go_wp2_with fail
  refine (eqIntS_same _ _ n2 _ _ f2 w19 HS19.out HL19.out.k2 (by omega)).mono ?_
  rintro e w20 ⟨rfl, hB⟩
  have HL20 := hid_of (HL19.out.next hB)
  clear hB HL19 HS19
  go_wp2_with fail
  refine (heldIntS_same _ n1 _ _ w20 HL20.out.s1.came (by omega) (by omega) (by omega)).mono ?_
  rintro e w21 ⟨rfl, hB⟩
  have HL21 := hid_of (HL20.out.next hB)
  clear hB HL20
  go_wp2_with fail
  refine (heldIntS_same _ n2 _ _ w21 HL21.out.s2.came (by omega) (by omega) (by omega)).mono ?_
  rintro e w22 ⟨rfl, hB⟩
  have HL22 := hid_of (HL21.out.next hB)
  clear hB HL21
  go_wp2_with fail
  go_ret
  exact ⟨rfl, HL22.out.bl⟩
theorem FnExactTokenLengths_many (a : Option Addr) (c m : Nat) (w : World) (h : ¬ m ≤ 1048576) (hm : m ≤ maxLen) :
    Calls Try.prog 3 #[.slice a m c] w fun e w' => e = .returned (.bool true) ∧ Below w.heap.size w w' := by
  unfold maxLen at hm
  have hsz : ∀ W, Calls Try.prog 6 #[.slice a m c, .int .i64 1048576] W fun e w' => e = .returned (.int .i64 (-1)) ∧ W = w' := fun W => by
    have h := szTokenS_any a m c 1048576 W (by omega) (by omega) (by omega)
    rw [if_neg (show ¬ (m : Int) ≤ 1048576 by omega)] at h
    exact h
  go_enter Try.func3, Try.ntmps3
  go_wp2_with fail
  refine (hsz _).mono ?_
  rintro e w1 ⟨rfl, rfl⟩
  go_wp2_with fail
  go_ret
  exact ⟨rfl, Below.refl _ _⟩
theorem sl_zero {w : World} {base : Nat} {a : Option Addr} {n cap : Nat} {f : Nat → Int} (h : SL w base a n cap f) : SL w 0 a n cap f := by
  rcases h with h | ⟨g, e, ho⟩
  · exact .inl h
  · exact .inr ⟨g, e, ho.mono (Nat.zero_le _)⟩
theorem FnExactTokenLengths_over (hA : TokLenAnswer) (a : Option Addr) (n c : Nat) (L : List Tok) (w : World) (hn : n = L.length) (hC : TCame w a n (fun j => L.getD j (0, 0, 0))) (_hf : ∀ t ∈ L, (Lit.int .i64 t.1).wf = true ∧ (Lit.int .i64 t.2.1).wf = true ∧ (Lit.int .i64 t.2.2).wf = true) (hm : n ≤ maxLen) :
    Calls Try.prog 3 #[.slice a n c] w fun e w' => e = .returned (.bool true) ∧ Below w.heap.size w w' := by
  subst hn
  by_cases h : L.length ≤ 1048576
  · by_cases hR : TokensRight L
    · refine FnExactTokenLengths_at (sizeA L) (sizeB L) (lenA L) (lenB L) true a c L.length _ w h hC (by have := trimN_le (lenA L) 257 286; unfold sizeA; omega) (by have := trimN_le (lenB L) 1 30; unfold sizeB; omega) (fun g w hC => ?_) (fun g w hC => ?_)
      · refine (specTokLen_good _ _ L w hC hR).mono ?_
        rintro e w' ⟨a1, c1, a2, c2, rfl, h1, h2, h3⟩
        exact ⟨a1, c1, a2, c2, rfl, sl_zero h1, sl_zero h2, h3⟩
      · refine ((hA _ _ L w hC h).1 hR).mono ?_
        rintro e w' ⟨a1, c1, a2, c2, rfl, h1, h2, h3, h4⟩
        exact ⟨a1, c1, a2, c2, rfl, h1, h2, fun e => absurd e h3, h4⟩
    · refine FnExactTokenLengths_at 0 0 (fun _ => 0) (fun _ => 0) false a c L.length _ w h hC (by omega) (by omega) (fun g w hC => ?_) (fun g w hC => ?_)
      · refine (specTokLen_bad _ _ L w hC h hR).mono ?_
        rintro e w' ⟨a1, a2, rfl, h3⟩
        exact ⟨a1, 0, a2, 0, rfl, .inl rfl, .inl rfl, h3⟩
      · refine ((hA _ _ L w hC h).2 hR).mono ?_
        rintro e w' ⟨rfl, h3⟩
        exact ⟨none, 0, none, 0, rfl, .inl rfl, .inl rfl, fun _ => .inl rfl, h3⟩
  · exact FnExactTokenLengths_many a c L.length w h hm
end Go.Proofs.Ytbcnlggkoidmmaa

namespace Go.Proofs.Ytbcnlggkoidmmaa
namespace TellMath
open TokMath StepMath

/-- A symbol, how many extra bits it has, and these. -/
abbrev Cod := Int × Int × Int
def symsT (t : Tok) : List (Bool × Cod) := if t.2.1 = 0 then [(false, (t.1, 0, 0))] else [(false, LengthCodeOf t.2.1), (true, DistCodeOf t.2.2)]
def symsL (L : List Tok) : List (Bool × Cod) := L.flatMap symsT
theorem symsT_byte (x z : Int) : symsT (x, 0, z) = [(false, (x, 0, 0))] := if_pos rfl
theorem symsT_rep (x : Int) {y : Int} (z : Int) (h : y ≠ 0) : symsT (x, y, z) = [(false, LengthCodeOf y), (true, DistCodeOf z)] := if_neg h
theorem symsL_snoc {L : List Tok} {j : Nat} (h : j < L.length) : symsL (L.take (j + 1)) = symsL (L.take j) ++ symsT (L.getD j (0, 0, 0)) := by
  unfold symsL
  rw [List.take_add_one, List.getElem?_eq_getElem h, List.flatMap_append, List.getD_eq_getElem?_getD, List.getElem?_eq_getElem h]
  simp
theorem symsT_length (t : Tok) : (symsT t).length ≤ 2 := by
  unfold symsT
  split <;> simp
theorem symsL_length : ∀ L : List Tok, (symsL L).length ≤ 2 * L.length
  | [] => Nat.le_refl _
  | t :: L => by
    have h1 := symsL_length L
    have h2 := symsT_length t
    show (symsT t ++ symsL L).length ≤ _
    rw [List.length_append, List.length_cons]
    omega
theorem symsL_app (a b : List Tok) : symsL (a ++ b) = symsL a ++ symsL b := List.flatMap_append
theorem mem_symsL {L : List Tok} {t : Tok} {x : Bool × Cod} (ht : t ∈ L) (hx : x ∈ symsT t) : x ∈ symsL L := List.mem_flatMap.mpr ⟨t, ht, hx⟩
end TellMath
end Go.Proofs.Ytbcnlggkoidmmaa

namespace Go.Proofs.Ytbcnlggkoidmmaa
namespace CntMath
open TokMath StepMath TokLenMath TellMath

/-- How often a symbol of the first code (or the second) is told. -/
def cnt (b : Bool) (S : List (Bool × Cod)) (i : Nat) : Int := ((S.filter fun x => decide (x.1 = b ∧ x.2.1.toNat = i)).length : Int)
theorem cnt_le (b : Bool) (S : List (Bool × Cod)) (i : Nat) : 0 ≤ cnt b S i ∧ cnt b S i ≤ S.length := by
  unfold cnt
  have := List.length_filter_le (fun x : Bool × Cod => decide (x.1 = b ∧ x.2.1.toNat = i)) S
  omega
theorem cnt_app (b : Bool) (S R : List (Bool × Cod)) (i : Nat) : cnt b (S ++ R) i = cnt b S i + cnt b R i := by
  unfold cnt
  rw [List.filter_append, List.length_append]
  omega
theorem cnt_one (b : Bool) (s : Cod) (i : Nat) : cnt b [(b, s)] i = if i = s.1.toNat then 1 else 0 := by
  unfold cnt
  by_cases h : i = s.1.toNat
  · subst h
    simp
  · have h' : ¬ s.1.toNat = i := fun e => h e.symm
    simp [h, h']
theorem cnt_none (b : Bool) (s : Cod) (i : Nat) : cnt b [(!b, s)] i = 0 := by
  unfold cnt
  cases b <;> simp
theorem cnt_snoc (S : List (Bool × Cod)) (b : Bool) (s : Cod) (i : Nat) : upd (cnt b S) s.1.toNat (cnt b S s.1.toNat + 1) i = cnt b (S ++ [(b, s)]) i := by
  rw [cnt_app, cnt_one]
  unfold upd
  by_cases h : i = s.1.toNat
  · rw [if_pos h, if_pos h, h]
  · rw [if_neg h, if_neg h]
    omega
theorem cnt_other (S : List (Bool × Cod)) {b : Bool} (s : Cod) (i : Nat) : cnt (!b) S i = cnt (!b) (S ++ [(b, s)]) i := by
  have := cnt_none (!b) s i
  rw [Bool.not_not] at this
  rw [cnt_app, this]
  omega
/-- Of tokens: as the model counts. -/
theorem cnt_first : ∀ (L : List Tok) (i : Nat), (if i = 256 then 1 else 0) + cnt false (symsL L) i = cntA L i
  | [], i => rfl
  | t :: L, i => by
    have ih := cnt_first L i
    have e : symsL (t :: L) = symsT t ++ symsL L := rfl
    rw [e, cnt_app]
    have h1 : cntA (t :: L) i = (if i = sym1 t then 1 else 0) + cntA L i := by
      unfold cntA
      rw [List.filter_cons]
      by_cases h : i = sym1 t
      · rw [if_pos h, if_pos (decide_eq_true h.symm), List.length_cons]
        omega
      · have h' : ¬ decide (sym1 t = i) = true := by simpa using fun e : sym1 t = i => h e.symm
        rw [if_neg h, if_neg h']
        omega
    have h2 : cnt false (symsT t) i = if i = sym1 t then 1 else 0 := by
      obtain ⟨x, y, z⟩ := t
      by_cases hy : y = 0
      · subst hy
        rw [symsT_byte, sym1_byte, cnt_one]
      · rw [symsT_rep _ _ hy, sym1_rep hy, show [(false, LengthCodeOf y), (true, DistCodeOf z)] = [(false, LengthCodeOf y)] ++ [(!false, DistCodeOf z)] from rfl, cnt_app, cnt_one, cnt_none]
        omega
    rw [h1, h2, ← ih]
    omega
theorem cnt_second : ∀ (L : List Tok) (i : Nat), cnt true (symsL L) i = cntB L i
  | [], i => rfl
  | t :: L, i => by
    have ih := cnt_second L i
    have e : symsL (t :: L) = symsT t ++ symsL L := rfl
    rw [e, cnt_app, ih]
    obtain ⟨x, y, z⟩ := t
    unfold cntB
    rw [List.filter_cons]
    by_cases hy : y = 0
    · subst hy
      rw [symsT_byte, show cnt true [(false, (x, 0, 0))] i = 0 from cnt_none true _ i, if_neg (by simp)]
      omega
    · rw [symsT_rep _ _ hy, show [(false, LengthCodeOf y), (true, DistCodeOf z)] = [(!true, LengthCodeOf y)] ++ [(true, DistCodeOf z)] from rfl, cnt_app, cnt_one, cnt_none]
      by_cases h : i = (DistCodeOf z).1.toNat
      · rw [if_pos h, if_pos (decide_eq_true ⟨hy, h.symm⟩), List.length_cons]
        omega
      · have h' : ¬ decide ((x, y, z).2.1 ≠ 0 ∧ sym2 (x, y, z) = i) = true := by
          rw [decide_eq_true_eq]
          exact fun e => h e.2.symm
        rw [if_neg h, if_neg h']
        omega
end CntMath
end Go.Proofs.Ytbcnlggkoidmmaa

namespace Go.Proofs.Ytbcnlggkoidmmaa
open Go.Proofs StepMath

theorem bit_len_of {n c : Nat} (h1 : 2 ^ (c + 1) ≤ n) (h2 : n < 2 ^ (c + 2)) (h : n < 18446744073709551616) : Lib.bitLen n = c + 2 := by
  rw [Lib.bitLen_shift (c + 1) n h1 h]
  have hp := Nat.two_pow_pos (c + 1)
  have e : n / 2 ^ (c + 1) = 1 := by
    rw [Nat.pow_succ 2 (c + 1)] at h2
    exact Nat.div_eq_of_lt_le (by omega) (by omega)
  rw [e]
  rfl
theorem len_sym : ∀ n, n < 255 → lenCode (n + 3) = (257 + ((Lib.bitLen n - 3) * 4 + n / 2 ^ (Lib.bitLen n - 3)), Lib.bitLen n - 3, n % 2 ^ (Lib.bitLen n - 3)) ∧ Lib.bitLen n ≤ 8 := by decide +kernel
theorem dist_first : ∀ n, n < 4 → distCode (n + 1) = ((Lib.bitLen n - 2) * 2 + n / 2 ^ (Lib.bitLen n - 2), Lib.bitLen n - 2, n % 2 ^ (Lib.bitLen n - 2)) ∧ Lib.bitLen n ≤ 15 := by decide +kernel
theorem dist_from : ∀ c, c < 14 → fromN 1 2 (c * 2 + 2) = 1 + 2 * 2 ^ c ∧ fromN 1 2 (c * 2 + 3) = 1 + 3 * 2 ^ c ∧ fromN 1 2 (c * 2 + 4) = 1 + 4 * 2 ^ c ∧ bitsN 2 (c * 2 + 2) = c ∧ bitsN 2 (c * 2 + 3) = c := by decide +kernel
theorem dist_more {n c : Nat} (hc : c < 14) (h1 : 2 ^ (c + 1) ≤ n) (h2 : n < 2 ^ (c + 2)) : distCode (n + 1) = (c * 2 + n / 2 ^ c, c, n % 2 ^ c) := by
  obtain ⟨f2, f3, f4, b2, b3⟩ := dist_from c hc
  have e1 : 2 ^ (c + 1) = 2 * 2 ^ c := by rw [Nat.pow_succ, Nat.mul_comm]
  have e2 : 2 ^ (c + 2) = 4 * 2 ^ c := by rw [Nat.pow_succ, Nat.pow_succ]; omega
  rw [e1] at h1
  rw [e2] at h2
  have hp := Nat.two_pow_pos c
  have hm := Nat.div_add_mod n (2 ^ c)
  have hl := Nat.mod_lt n hp
  generalize 2 ^ c = p at *
  unfold distCode
  rcases Nat.lt_or_ge n (3 * p) with h | h
  · have hq : n / p = 2 := Nat.div_eq_of_lt_le (by omega) (by omega)
    rw [hq] at hm ⊢
    rw [find_told (j := c * 2 + 2) (by omega) (by show n + 1 < fromN 1 2 (c * 2 + 3); omega) (by omega) (by omega), b2, f2]
    congr 2
    omega
  · have hq : n / p = 3 := Nat.div_eq_of_lt_le (by omega) (by omega)
    rw [hq] at hm ⊢
    rw [find_told (j := c * 2 + 3) (by omega) (by show n + 1 < fromN 1 2 (c * 2 + 4); omega) (by omega) (by omega), b3, f3]
    congr 2
    omega
theorem dist_sym {n : Nat} (h : n < 32768) : distCode (n + 1) = ((Lib.bitLen n - 2) * 2 + n / 2 ^ (Lib.bitLen n - 2), Lib.bitLen n - 2, n % 2 ^ (Lib.bitLen n - 2)) ∧ Lib.bitLen n ≤ 15 := by
  rcases Nat.lt_or_ge n 4 with h4 | h4
  · exact dist_first n h4
  · have key : ∃ c, c < 14 ∧ 2 ^ (c + 1) ≤ n ∧ n < 2 ^ (c + 2) := by
      have : ∀ k, k < 14 → n < 2 ^ (k + 2) → ∃ c, c < 14 ∧ 2 ^ (c + 1) ≤ n ∧ n < 2 ^ (c + 2) := by
        intro k
        induction k with
        | zero => intro _ h; exact absurd h (by omega)
        | succ k ih =>
          intro hk hn
          rcases Nat.lt_or_ge n (2 ^ (k + 2)) with q | q
          · exact ih (by omega) q
          · exact ⟨k + 1, hk, q, hn⟩
      exact this 13 (by omega) h
    obtain ⟨c, hc, h1, h2⟩ := key
    have e := bit_len_of h1 h2 (by omega)
    have ec : Lib.bitLen n - 2 = c := by omega
    rw [ec]
    exact ⟨dist_more hc h1 h2, by omega⟩
/-- The least numbers of the symbols. -/
theorem len_least : ∀ j, j < 28 → lenBits (257 + j) = (j / 4 - 1, 3 + (j - (j / 4 - 1) * 4) * 2 ^ (j / 4 - 1)) ∧ j / 4 - 1 ≤ 5 := by decide +kernel
theorem dist_least : ∀ j, j < 30 → distBits j = (j / 2 - 1, 1 + (j - (j / 2 - 1) * 2) * 2 ^ (j / 2 - 1)) ∧ j / 2 - 1 ≤ 13 := by decide +kernel
end Go.Proofs.Ytbcnlggkoidmmaa
