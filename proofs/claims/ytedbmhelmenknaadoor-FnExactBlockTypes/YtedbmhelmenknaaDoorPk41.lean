/-
  The walk of the law FnExactBlockTypes, over what the model and the program answer.
-/
import Derived.Test.YtedbmhelmenknaaDoorPk40
namespace Go.Proofs.YtedbmhelmenknaaDoor
open Go.RowKit Go.Joins InfMath

/-- What lasts through the law: all that was there; the model's types; the program's types. -/
def BtKeep (W w : World) (B : Nat) (a0 a1 : Option Addr) (n c : Nat) (F h : Nat → Int) : Prop :=
  Below W.heap.size W w ∧ Came w a0 n F ∧ (∀ g off, a0 = some ⟨g, off, none⟩ → n = 0 ∨ g < B) ∧ B ≤ w.heap.size ∧ W.heap.size ≤ B ∧ SL w B a1 n c h
theorem BtKeep.next {W w w' : World} {B : Nat} {a0 a1 : Option Addr} {n c : Nat} {F h : Nat → Int} (k : BtKeep W w B a0 a1 n c F h) (hb : Below w.heap.size w w') : BtKeep W w' B a0 a1 n c F h := by
  obtain ⟨k1, k2, k3, k4, k5, k6⟩ := k
  exact ⟨bnext k1 hb, k2.called hb, k3, Nat.le_trans k4 hb.size, k5, k6.called hb⟩
theorem came_grown {w w' : World} {a : Option Addr} {n B : Nat} {f : Nat → Int} {row : Option Nat} (h : Came w a n f) (hB : ∀ g off, a = some ⟨g, off, none⟩ → n = 0 ∨ g < B) (hr : ∀ k, row = some k → B ≤ k) (hg : w.grownBy w' row) : Came w' a n f := by
  by_cases h0 : n = 0
  · exact .inl h0
  · refine h.grown (B := B) (fun g off e => ?_) hr hg
    rcases hB g off e with q | q
    · exact absurd q h0
    · exact q
set_option maxRecDepth 100000 in
set_option maxHeartbeats 1600000 in
theorem FnExactBlockTypes_at (s : ByteArray) (most : Int) (n : Nat) (F : Nat → Int) (b : Bool) (w : World) (hs : s.size ≤ 1048576) (hn : n ≤ 1048576) (hG : OrderG w)
    (hx : ∀ (w : World), Calls Tryd.prog 7 #[.string s, .int .i64 most] w fun e w' => ∃ a c, e = .returned (.tuple #[.slice a n c, .bool b]) ∧ Came w' a n F ∧ (∀ g off, a = some ⟨g, off, none⟩ → n = 0 ∨ g < w'.heap.size) ∧ Below w.heap.size w w')
    (hy : ∀ (w : World), OrderG w → Calls Tryd.prog 8 #[.string s, .int .i64 most] w fun e w' => ∃ a c, e = .returned (.tuple #[.slice a n c, .bool b]) ∧ SL w' w.heap.size a n c F ∧ Below w.heap.size w w') :
    Calls Tryd.prog 4 #[.string s, .int .i64 most] w fun e w' => e = .returned (.bool true) ∧ Below w.heap.size w w' := by
  have Hx := hid_of hx
  have Hy := hid_of hy
  have HG := hid_of hG
  have hbb : (b != b) = false := bne_self_eq_false b
  have d1 : decide ((1048576 : Int) < (s.size : Int)) = false := decide_eq_false (by omega)
  have d2 : decide (1048576 < s.size) = false := decide_eq_false (by omega)
  clear hx hy hG
  go_enter Tryd.func4, Tryd.ntmps4
  go_wp2_with fail
  refine (Hx.out w).mono ?_
  rintro e w1 ⟨a0, c0, rfl, hC1, hl1, hB1⟩
  have hy1 := Hy.out w1 (HG.out.below hB1 HG.out.1)
  have H1 := hid_of (And.intro hC1 (And.intro hl1 hB1))
  clear hC1 hl1 hB1
  go_wp2_with fail
  refine hy1.mono ?_
  clear hy1
  rintro e w2 ⟨a1, c1, rfl, hS2, hB2⟩
  have HS2 : Hid (BtKeep w w2 w1.heap.size a0 a1 n c1 F F) := ⟨bnext H1.out.2.2 hB2, H1.out.1.called hB2, H1.out.2.1, hB2.size, H1.out.2.2.size, hS2⟩
  clear hS2 hB2 H1
  go_wp2_with fail
  refine (eqIntS_same _ _ n _ _ F w2 HS2.out.2.2.2.2.2.came HS2.out.2.1 hn).mono ?_
  rintro e w3 ⟨rfl, hB3⟩
  have HS3 := hid_of (HS2.out.next hB3)
  clear hB3 HS2
  go_wp2_with fail
  refine (markIntS_sl _ a1 n c1 F 1 w3 HS3.out.2.2.2.2.2 hn (by omega) (by omega)).mono ?_
  rintro e w4 ⟨rfl, hS4, row, hrow, hG4⟩
  have HS4 : Hid (BtKeep w w4 w1.heap.size a0 a1 n c1 F (fun j => 1 + j)) := by
    obtain ⟨k1, k2, k3, k4, k5, k6⟩ := HS3.out
    exact ⟨k1.grown hG4 (by omega) (fun k hk => by have := hrow k hk; omega), came_grown k2 k3 hrow hG4, k3, Nat.le_trans k4 hG4.size, k5, hS4⟩
  clear hS4 hrow hG4 HS3
  go_wp2_with fail
  refine (heldIntS_same a1 n c1 1 w4 HS4.out.2.2.2.2.2.came hn (by omega) (by omega)).mono ?_
  rintro e w5 ⟨rfl, hB5⟩
  have HS5 := hid_of (HS4.out.next hB5)
  have hy5 := Hy.out w5 (HG.out.below HS5.out.1 HG.out.1)
  clear hB5 HS4
  go_wp2_with fail
  refine hy5.mono ?_
  clear hy5
  rintro e w6 ⟨a2, c2, rfl, hS6, hB6⟩
  have HS6 := hid_of (HS5.out.next hB6)
  have HN6 := hid_of hS6.came
  clear hS6 hB6 HS5
  go_wp2_with fail
  refine (eqIntS_same _ _ n _ _ F w6 HN6.out HS6.out.2.1 hn).mono ?_
  rintro e w7 ⟨rfl, hB7⟩
  have HS7 := hid_of (HS6.out.next hB7)
  clear hB7 HS6 HN6
  go_wp2_with fail
  refine (heldIntS_same a1 n c1 1 w7 HS7.out.2.2.2.2.2.came hn (by omega) (by omega)).mono ?_
  rintro e w8 ⟨rfl, hB8⟩
  have HE := hid_of (bnext HS7.out.1 hB8)
  clear hB8 HS7
  go_wp2_with fail
  go_ret
  exact ⟨rfl, HE.out⟩
theorem FnExactBlockTypes_over (s : ByteArray) (most : Int) (w : World) (hm : s.size ≤ maxLen) (_ : (Lit.int .i64 most).wf = true) (hG : OrderG w) :
    Calls Tryd.prog 4 #[.string s, .int .i64 most] w fun e w' => e = .returned (.bool true) ∧ Below w.heap.size w w' := by
  unfold maxLen at hm
  by_cases h : s.size ≤ 1048576
  · rcases inflate_alike s most with ⟨⟨O, p, Ty⟩, q1, q2⟩ | ⟨c, c', q1, q2⟩
    · by_cases hl : Ty.length ≤ 96000
      · refine FnExactBlockTypes_at s most Ty.length (fun j => Ty.getD j 0) true w h (by omega) hG (fun w => ?_) (fun w hg => ?_)
        · refine (specTypes_any s most w h).mono ?_
          rintro e w1 ⟨hB, ⟨O', p', Ty', a, c, hr, _, rfl, hnr⟩ | ⟨x, a, c, hr, rfl⟩⟩
          · rw [q2] at hr
            cases hr
            refine ⟨a, c, rfl, (sl_of_num hnr rfl).came, fun g off e => ?_, hB⟩
            subst e
            exact .inr (World.ownsRow.lt hnr g rfl).2
          · rw [q2] at hr
            cases hr
        · refine (implTypes_any s most w h hg).mono ?_
          rintro e w1 ⟨hB, ⟨O', p', Ty', a, c, hr, _, rfl, hnr⟩ | ⟨x, a, c, hr, rfl⟩⟩
          · rw [q1] at hr
            cases hr
            exact ⟨a, c, rfl, sl_of_num hnr rfl, hB⟩
          · rw [q1] at hr
            cases hr
      · exact absurd (types_small q2) hl
    · refine FnExactBlockTypes_at s most 0 (fun _ => 0) false w h (by omega) hG (fun w => ?_) (fun w hg => ?_)
      · refine (specTypes_any s most w h).mono ?_
        rintro e w1 ⟨hB, ⟨O', p', Ty', a, c, hr, _, rfl, hnr⟩ | ⟨x, a, c, hr, rfl⟩⟩
        · rw [q2] at hr
          cases hr
        · exact ⟨a, c, rfl, .inl rfl, fun _ _ _ => .inl rfl, hB⟩
      · refine (implTypes_any s most w h hg).mono ?_
        rintro e w1 ⟨hB, ⟨O', p', Ty', a, c, hr, _, rfl, hnr⟩ | ⟨x, a, c, hr, rfl⟩⟩
        · rw [q1] at hr
          cases hr
        · exact ⟨a, c, rfl, .inl rfl, hB⟩
  · have d1 : decide ((1048576 : Int) < (s.size : Int)) = true := decide_eq_true (by omega)
    have d2 : decide (1048576 < s.size) = true := decide_eq_true (by omega)
    clear hG
    go_enter Tryd.func4, Tryd.ntmps4
    go_wp2_with fail
    go_ret
    exact ⟨rfl, Below.refl _ _⟩
end Go.Proofs.YtedbmhelmenknaaDoor
