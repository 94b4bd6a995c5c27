/-
  What the program's functions on lengths are to answer.
  The walk of the program's symbols of lengths.
  The walks of the program's functions on lengths.
  What the program is to answer of a distance.
  What the program's functions on distances are to answer.
  The walk of the program's symbols of distances.
  The walks of the program's functions on distances.
  Lists of numbers beside an unpacking under way: they stay while the record turns and bytes are put behind.
  The walks of the document's model of the next whole byte.
-/
import Derived.Test.YtedbmhelmenknaaDoorRows
import Derived.Test.YtedbmhelmenknaaDoorPk01
import Derived.Test.YtedbmhelmenknaaDoorPk06
import Derived.Test.YtedbmhelmenknaaDoorPk14
import Derived.Test.YtedbmhelmenknaaDoorPk05
import Derived.Test.YtedbmhelmenknaaDoorPk07
import Derived.Test.YtedbmhelmenknaaDoorPk02
import Derived.Test.YtedbmhelmenknaaDoorPk10
import Derived.WalkKit
import Derived.Below
import Derived.ProofKit
import Derived.WalkLawsBesides
import Derived.Deep.QuietTactic
import Derived.BigQuiet
import Derived.Lib.SmallJoins
namespace Go.Proofs.YtedbmhelmenknaaDoor
open Go.RowKit StepMath

def LengthOfAnswer : Prop := ∀ (s x : Int) (w : World), (Lit.int .i64 s).wf = true → (Lit.int .i64 x).wf = true → Calls Tryd.prog 85 #[.int .i64 s, .int .i64 x] w fun e w' => e = .returned (.tuple #[.int .i64 (LengthOfR s x).1, .bool (LengthOfR s x).2]) ∧ Below w.heap.size w w'

end Go.Proofs.YtedbmhelmenknaaDoor

namespace Go.Proofs.YtedbmhelmenknaaDoor
open Go.RowKit Go.Joins OutMath StepMath

end Go.Proofs.YtedbmhelmenknaaDoor

namespace Go.Proofs.YtedbmhelmenknaaDoor
open Go.RowKit Go.Joins OutMath StepMath

theorem lengthBits_any (j : Nat) (w : World) (h : j < 28) :
    Calls Tryd.prog 84 #[.int .i64 (257 + (j : Int))] w fun e w' => e = .returned (.int .i64 ((j / 4 - 1 : Nat) : Int)) ∧ w' = w := by
  have d : ((257 : Int) + (j : Int) == 285) = false := by simp; omega
  have hs : ∀ w, Calls Tryd.prog 88 #[.int .i64 (257 + (j : Int) - 257), .int .i64 2] w fun e w' => e = .returned (.int .i64 ((j / 4 - 1 : Nat) : Int)) ∧ w' = w := fun w => by
    rw [show (257 : Int) + (j : Int) - 257 = (j : Int) by omega]
    exact symbolBits_any 2 j w (by omega) (by omega)
  go_enter Tryd.func84, Tryd.ntmps84
  go_wp2_with fail
  refine (hs _).mono ?_
  rintro e w' ⟨rfl, rfl⟩
  go_wp2_with fail
  go_ret
  exact ⟨rfl, rfl⟩
theorem lengthBits_last (w : World) :
    Calls Tryd.prog 84 #[.int .i64 285] w fun e w' => e = .returned (.int .i64 0) ∧ w' = w := by
  go_enter Tryd.func84, Tryd.ntmps84
  go_wp2_with fail
  go_ret
  exact ⟨rfl, rfl⟩

theorem lenBits_last : lenBits 285 = (0, 258) := rfl
set_option maxHeartbeats 1600000 in
theorem lengthOf_answer : LengthOfAnswer := by
  intro s x w _ _
  by_cases h1 : 257 ≤ s
  · by_cases h2 : s ≤ 285
    · by_cases h3 : 0 ≤ x
      · have d1 : decide (s < 257) = false := decide_eq_false (by omega)
        have d2 : decide ((285 : Int) < s) = false := decide_eq_false (by omega)
        have d3 : decide (x < 0) = false := decide_eq_false (by omega)
        by_cases h4 : s = 285
        · subst h4
          by_cases h5 : x < 1
          · obtain rfl : x = 0 := by omega
            have he : LengthOfR 285 0 = (258, true) := by decide
            rw [he]
            go_enter Tryd.func85, Tryd.ntmps85
            go_wp2_with fail
            refine (lengthBits_last _).mono ?_
            rintro e w' ⟨rfl, rfl⟩
            go_wp2_with fail
            go_ret2
            exact ⟨rfl, Below.refl _ _⟩
          · have he : LengthOfR 285 x = (0, false) := by
              unfold LengthOfR
              rw [if_neg (fun q => h5 q.2.2)]
            have d4 : decide ((1 : Int) ≤ x) = true := decide_eq_true (by omega)
            rw [he]
            go_enter Tryd.func85, Tryd.ntmps85
            go_wp2_with fail
            refine (lengthBits_last _).mono ?_
            rintro e w' ⟨rfl, rfl⟩
            go_wp2_with fail
            go_ret2
            exact ⟨rfl, Below.refl _ _⟩
        · obtain ⟨j, rfl⟩ : ∃ j : Nat, s = 257 + (j : Int) := ⟨(s - 257).toNat, by omega⟩
          have hj : j < 28 := by omega
          obtain ⟨hl, hc5⟩ := len_least j hj
          have d4 : ((257 : Int) + (j : Int) == 285) = false := by simp; omega
          have hlb := fun w => lengthBits_any j w hj
          have hnum : ∀ w, Calls Tryd.prog 89 #[.int .i64 (257 + (j : Int) - 257), .int .i64 2] w fun e w' => e = .returned (.int .i64 (((j - (j / 4 - 1) * 4) * 2 ^ (j / 4 - 1) : Nat) : Int)) ∧ w' = w := fun w => by
            rw [show (257 : Int) + (j : Int) - 257 = (j : Int) by omega]
            exact numberOf_any 2 j w (.inr rfl) (by omega)
          have hsz : (j - (j / 4 - 1) * 4) * 2 ^ (j / 4 - 1) ≤ 1000 := (show ∀ j, j < 28 → (j - (j / 4 - 1) * 4) * 2 ^ (j / 4 - 1) ≤ 1000 by decide +kernel) j hj
          unfold LengthOfR
          rw [show ((257 : Int) + (j : Int)).toNat = 257 + j by omega, hl]
          generalize (j - (j / 4 - 1) * 4) * 2 ^ (j / 4 - 1) = z at *
          generalize j / 4 - 1 = c at *
          obtain ⟨q, hq1, hq2, hq3⟩ := pow_named c (by omega)
          show Calls Tryd.prog 85 _ _ fun e w' => e = .returned (.tuple #[.int .i64 (if (257 ≤ 257 + (j : Int) ∧ 257 + (j : Int) ≤ 285) ∧ 0 ≤ x ∧ x < 2 ^ c then (((3 + z : Nat) : Int) + x, true) else (0, false)).1, .bool (if (257 ≤ 257 + (j : Int) ∧ 257 + (j : Int) ≤ 285) ∧ 0 ≤ x ∧ x < 2 ^ c then (((3 + z : Nat) : Int) + x, true) else (0, false)).2]) ∧ _
          rw [← hq1]
          clear hq1 hl
          by_cases h5 : x < (q : Int)
          · have d5 : decide ((q : Int) ≤ x) = false := decide_eq_false (by omega)
            rw [if_pos ⟨⟨h1, h2⟩, h3, h5⟩]
            go_enter Tryd.func85, Tryd.ntmps85
            go_wp2_with fail
            refine (hlb _).mono ?_
            rintro e w' ⟨rfl, rfl⟩
            go_wp2_with fail
            refine (hnum _).mono ?_
            rintro e w1 ⟨rfl, rfl⟩
            clear hlb hnum
            go_wp2_with fail
            go_ret2
            exact ⟨ret_ib (by omega) rfl, Below.refl _ _⟩
          · have d5 : decide ((q : Int) ≤ x) = true := decide_eq_true (by omega)
            rw [if_neg (fun q => h5 q.2.2)]
            go_enter Tryd.func85, Tryd.ntmps85
            go_wp2_with fail
            refine (hlb _).mono ?_
            rintro e w' ⟨rfl, rfl⟩
            go_wp2_with fail
            go_ret2
            exact ⟨rfl, Below.refl _ _⟩
      · have he : LengthOfR s x = (0, false) := by
          unfold LengthOfR
          rw [if_neg (fun q => h3 q.2.1)]
        have d1 : decide (s < 257) = false := decide_eq_false (by omega)
        have d2 : decide ((285 : Int) < s) = false := decide_eq_false (by omega)
        have d3 : decide (x < 0) = true := decide_eq_true (by omega)
        rw [he]
        go_enter Tryd.func85, Tryd.ntmps85
        go_wp2_with fail
        go_ret2
        exact ⟨rfl, Below.refl _ _⟩
    · have he : LengthOfR s x = (0, false) := by
        unfold LengthOfR
        rw [if_neg (fun q => h2 q.1.2)]
      have d1 : decide (s < 257) = false := decide_eq_false (by omega)
      have d2 : decide ((285 : Int) < s) = true := decide_eq_true (by omega)
      rw [he]
      go_enter Tryd.func85, Tryd.ntmps85
      go_wp2_with fail
      go_ret2
      exact ⟨rfl, Below.refl _ _⟩
  · have he : LengthOfR s x = (0, false) := by
      unfold LengthOfR
      rw [if_neg (fun q => h1 q.1.1)]
    have d1 : decide (s < 257) = true := decide_eq_true (by omega)
    rw [he]
    go_enter Tryd.func85, Tryd.ntmps85
    go_wp2_with fail
    go_ret2
    exact ⟨rfl, Below.refl _ _⟩

end Go.Proofs.YtedbmhelmenknaaDoor

namespace Go.Proofs.YtedbmhelmenknaaDoor
open Go.RowKit StepMath

end Go.Proofs.YtedbmhelmenknaaDoor

namespace Go.Proofs.YtedbmhelmenknaaDoor
open Go.RowKit StepMath

def DistOfAnswer : Prop := ∀ (s x : Int) (w : World), (Lit.int .i64 s).wf = true → (Lit.int .i64 x).wf = true → Calls Tryd.prog 87 #[.int .i64 s, .int .i64 x] w fun e w' => e = .returned (.tuple #[.int .i64 (DistOfR s x).1, .bool (DistOfR s x).2]) ∧ Below w.heap.size w w'

end Go.Proofs.YtedbmhelmenknaaDoor

namespace Go.Proofs.YtedbmhelmenknaaDoor
open Go.RowKit Go.Joins OutMath StepMath

end Go.Proofs.YtedbmhelmenknaaDoor

namespace Go.Proofs.YtedbmhelmenknaaDoor
open Go.RowKit Go.Joins OutMath StepMath

theorem distBits_any (j : Nat) (w : World) (h : j < 30) :
    Calls Tryd.prog 86 #[.int .i64 (j : Int)] w fun e w' => e = .returned (.int .i64 ((j / 2 - 1 : Nat) : Int)) ∧ w' = w := by
  have hs := fun w => symbolBits_any 1 j w (by omega) h
  go_enter Tryd.func86, Tryd.ntmps86
  go_wp2_with fail
  refine (hs _).mono ?_
  rintro e w' ⟨rfl, rfl⟩
  go_wp2_with fail
  go_ret
  exact ⟨rfl, rfl⟩

set_option maxHeartbeats 1600000 in
theorem distOf_answer : DistOfAnswer := by
  intro s x w _ _
  by_cases h1 : 0 ≤ s
  · by_cases h2 : s ≤ 29
    · by_cases h3 : 0 ≤ x
      · obtain ⟨j, rfl⟩ := Int.eq_ofNat_of_zero_le h1
        have d2 : decide ((29 : Int) < (j : Int)) = false := decide_eq_false (by omega)
        have d2' : decide (29 < j) = false := decide_eq_false (by omega)
        have d3 : decide (x < 0) = false := decide_eq_false (by omega)
        have hj : j < 30 := by omega
        obtain ⟨hl, hc5⟩ := dist_least j hj
        have hlb := fun w => distBits_any j w hj
        have hnum := fun w => numberOf_any 1 j w (.inl rfl) (by omega)
        simp only [Nat.pow_one] at hnum
        have hsz : (j - (j / 2 - 1) * 2) * 2 ^ (j / 2 - 1) ≤ 100000 := (show ∀ j, j < 30 → (j - (j / 2 - 1) * 2) * 2 ^ (j / 2 - 1) ≤ 100000 by decide +kernel) j hj
        unfold DistOfR
        rw [show ((j : Int)).toNat = j by omega, hl]
        generalize (j - (j / 2 - 1) * 2) * 2 ^ (j / 2 - 1) = z at *
        generalize j / 2 - 1 = c at *
        obtain ⟨q, hq1, hq2, hq3⟩ := pow_named c (by omega)
        show Calls Tryd.prog 87 _ _ fun e w' => e = .returned (.tuple #[.int .i64 (if (0 ≤ (j : Int) ∧ (j : Int) ≤ 29) ∧ 0 ≤ x ∧ x < 2 ^ c then (((1 + z : Nat) : Int) + x, true) else (0, false)).1, .bool (if (0 ≤ (j : Int) ∧ (j : Int) ≤ 29) ∧ 0 ≤ x ∧ x < 2 ^ c then (((1 + z : Nat) : Int) + x, true) else (0, false)).2]) ∧ _
        rw [← hq1]
        clear hq1 hl
        by_cases h5 : x < (q : Int)
        · have d5 : decide ((q : Int) ≤ x) = false := decide_eq_false (by omega)
          rw [if_pos ⟨⟨h1, h2⟩, h3, h5⟩]
          go_enter Tryd.func87, Tryd.ntmps87
          go_wp2_with fail
          refine (hlb _).mono ?_
          rintro e w' ⟨rfl, rfl⟩
          go_wp2_with fail
          refine (hnum _).mono ?_
          rintro e w1 ⟨rfl, rfl⟩
          clear hlb hnum
          go_wp2_with fail
          go_ret2
          exact ⟨ret_ib (by omega) rfl, Below.refl _ _⟩
        · have d5 : decide ((q : Int) ≤ x) = true := decide_eq_true (by omega)
          rw [if_neg (fun q => h5 q.2.2)]
          go_enter Tryd.func87, Tryd.ntmps87
          go_wp2_with fail
          refine (hlb _).mono ?_
          rintro e w' ⟨rfl, rfl⟩
          go_wp2_with fail
          go_ret2
          exact ⟨rfl, Below.refl _ _⟩
      · have he : DistOfR s x = (0, false) := by
          unfold DistOfR
          rw [if_neg (fun q => h3 q.2.1)]
        have d1 : decide (s < 0) = false := decide_eq_false (by omega)
        have d2 : decide ((29 : Int) < s) = false := decide_eq_false (by omega)
        have d3 : decide (x < 0) = true := decide_eq_true (by omega)
        rw [he]
        go_enter Tryd.func87, Tryd.ntmps87
        go_wp2_with fail
        go_ret2
        exact ⟨rfl, Below.refl _ _⟩
    · have he : DistOfR s x = (0, false) := by
        unfold DistOfR
        rw [if_neg (fun q => h2 q.1.2)]
      have d1 : decide (s < 0) = false := decide_eq_false (by omega)
      have d2 : decide ((29 : Int) < s) = true := decide_eq_true (by omega)
      rw [he]
      go_enter Tryd.func87, Tryd.ntmps87
      go_wp2_with fail
      go_ret2
      exact ⟨rfl, Below.refl _ _⟩
  · have he : DistOfR s x = (0, false) := by
      unfold DistOfR
      rw [if_neg (fun q => h1 q.1.1)]
    have d1 : decide (s < 0) = true := decide_eq_true (by omega)
    rw [he]
    go_enter Tryd.func87, Tryd.ntmps87
    go_wp2_with fail
    go_ret2
    exact ⟨rfl, Below.refl _ _⟩

end Go.Proofs.YtedbmhelmenknaaDoor

namespace Go.Proofs.YtedbmhelmenknaaDoor
open Go.RowKit CodeMath InfMath

/-- A list of numbers that is neither in the record's block nor in that of the bytes. -/
def Tab (w : World) (b : Nat) (vo : Value) (a : Option Addr) (n : Nat) (f : Nat → Int) : Prop :=
  n = 0 ∨ ∃ g off, a = some ⟨g, off, none⟩ ∧ g < w.heap.size ∧ g ≠ b ∧ vo.ownBlock ≠ some g ∧ ∀ j, j < n → w.cell? ⟨g, off + j, none⟩ = some (.int .i64 (f j))
section
variable {w w' : World} {b : Nat} {vo : Value} {a : Option Addr} {n : Nat} {f : Nat → Int}
theorem Tab.came (h : Tab w b vo a n f) : Came w a n f := by
  rcases h with h | ⟨g, off, h1, h2, _, _, h5⟩
  · exact .inl h
  · exact .inr ⟨g, off, h1, h2, h5⟩
theorem Tab.turned (h : Tab w b vo a n f) (hg : w.grownBy w' (some b)) : Tab w' b vo a n f := by
  rcases h with h | ⟨g, off, h1, h2, h3, h4, h5⟩
  · exact .inl h
  · refine .inr ⟨g, off, h1, Nat.lt_of_lt_of_le h2 hg.size, h3, h4, fun j hj => ?_⟩
    have hb := hg.block g h2 (fun e => h3 (by cases e; rfl))
    rw [← h5 j hj]
    unfold World.cell?
    rw [hb]
theorem Tab.called (h : Tab w b vo a n f) (hb : Below w.heap.size w w') : Tab w' b vo a n f := h.turned (grown_called hb _)
/-- Behind a byte more. -/
theorem Tab.more {o : Obj} {g cap m : Nat} {v : Value} (h : Tab w b vo a n f) (y2 : (w.alloc o).grownBy w' vo.ownBlock) (y3 : vo.ownBlock = some g ∨ g = w.heap.size + 1) :
    Tab (w'.setCell ⟨b, 2, none⟩ v) b (.slice (some ⟨g, 0, none⟩) m cap) a n f := by
  rcases h with h | ⟨k, off, h1, h2, h3, h4, h5⟩
  · exact .inl h
  · have hsz : w.heap.size + 1 = (w.alloc o).heap.size := (World.size_alloc _ _).symm
    have hk : w'.heap[k]? = w.heap[k]? := (y2.block k (by omega) (fun e => h4 e.symm)).trans ((bstart w o).block k h2)
    have hkl : k < w'.heap.size := by have := y2.size; omega
    have hgk : g ≠ k := by
      rcases y3 with q | q
      · exact fun e => h4 (by rw [q, e])
      · omega
    have hs := (grown_cell w' b 2 v).block k hkl (fun e => h3 (by cases e; rfl))
    refine .inr ⟨k, off, h1, by have := (grown_cell w' b 2 v).size; omega, h3, by simpa [Value.ownBlock] using hgk, fun j hj => ?_⟩
    rw [← h5 j hj]
    unfold World.cell?
    rw [hs, hk]
theorem tab_new {base g cap : Nat} (h : IOwn w base g n cap f) (hb : b ≠ g) (hv : vo.ownBlock ≠ some g) : Tab w b vo (some ⟨g, 0, none⟩) n f := .inr ⟨g, 0, rfl, h.lt, fun e => hb e.symm, hv, fun j hj => by rw [Nat.zero_add]; exact h.cell j hj⟩
end

/-- What the ring of the symbols has at hand: the state, both codes' lengths, both codes. -/
def SyI (w0 w : World) (b : Nat) (s : ByteArray) (p : Nat) (O : List Int) (most c : Nat) (Ty : List Int) (vo vt : Value) (a1 : Option Addr) (n1 : Nat) (f1 : Nat → Int) (a2 : Option Addr) (n2 : Nat) (f2 : Nat → Int) (g1 g2 : Nat) : Prop :=
  RS w0 w b s p O most c Ty vo vt ∧ Tab w b vo a1 n1 f1 ∧ Tab w b vo a2 n2 f2 ∧ Tab w b vo (some ⟨g1, 0, none⟩) n1 (codeOf f1 n1) ∧ Tab w b vo (some ⟨g2, 0, none⟩) n2 (codeOf f2 n2)
section
variable {w0 w w' : World} {b : Nat} {s : ByteArray} {p : Nat} {O : List Int} {most c : Nat} {Ty : List Int} {vo vt : Value} {a1 a2 : Option Addr} {n1 n2 : Nat} {f1 f2 : Nat → Int} {g1 g2 : Nat}
theorem SyI.turned {p' c' : Nat} (h : SyI w0 w b s p O most c Ty vo vt a1 n1 f1 a2 n2 f2 g1 g2) (hr : RB w' b s p' vo most c' vt) (hg : w.grownBy w' (some b)) : SyI w0 w' b s p' O most c' Ty vo vt a1 n1 f1 a2 n2 f2 g1 g2 :=
  ⟨h.1.turned hr hg, h.2.1.turned hg, h.2.2.1.turned hg, h.2.2.2.1.turned hg, h.2.2.2.2.turned hg⟩
theorem SyI.called (h : SyI w0 w b s p O most c Ty vo vt a1 n1 f1 a2 n2 f2 g1 g2) (hb : Below w.heap.size w w') : SyI w0 w' b s p O most c Ty vo vt a1 n1 f1 a2 n2 f2 g1 g2 := h.turned (h.1.1.called hb) (grown_called hb _)
theorem SyI.drewN (h : SyI w0 w b s p O most c Ty vo vt a1 n1 f1 a2 n2 f2 g1 g2) (k : Nat) : SyI w0 (w.drewN k) b s p O most c Ty vo vt a1 n1 f1 a2 n2 f2 g1 g2 := h.called ⟨rfl, rfl, rfl, Nat.le_refl _, fun _ _ => rfl⟩
theorem SyI.setCode (h : SyI w0 w b s p O most c Ty vo vt a1 n1 f1 a2 n2 f2 g1 g2) (x : Nat) : SyI w0 (w.setCell ⟨b, 4, none⟩ (.int .i64 (x : Int))) b s p O most x Ty vo vt a1 n1 f1 a2 n2 f2 g1 g2 := h.turned (h.1.1.code x) (grown_cell _ _ _ _)
theorem SyI.more {o : Obj} {g cap : Nat} {x : Int} (h : SyI w0 w b s p O most c Ty vo vt a1 n1 f1 a2 n2 f2 g1 g2) (y1 : w'.ownsRow w0.heap.size 5 1 (.slice (some ⟨g, 0, none⟩) (O.length + 1) cap) (O.length + 1) (u8l O ++ [.int .u8 x])) (y2 : (w.alloc o).grownBy w' vo.ownBlock) (y3 : vo.ownBlock = some g ∨ g = w.heap.size + 1) :
    RB w' b s p vo most c vt ∧ SyI w0 (w'.setCell ⟨b, 2, none⟩ (.slice (some ⟨g, 0, none⟩) (O.length + 1) cap)) b s p (O ++ [x]) most c Ty (.slice (some ⟨g, 0, none⟩) (O.length + 1) cap) vt a1 n1 f1 a2 n2 f2 g1 g2 := by
  obtain ⟨q1, q2⟩ := h.1.more y1 y2 y3
  exact ⟨q1, q2, h.2.1.more y2 y3, h.2.2.1.more y2 y3, h.2.2.2.1.more y2 y3, h.2.2.2.2.more y2 y3⟩
end

end Go.Proofs.YtedbmhelmenknaaDoor

namespace Go.Proofs.YtedbmhelmenknaaDoor
open Go.RowKit Go.Joins OutMath

set_option maxHeartbeats 400000 in
theorem specNext_yes (s : ByteArray) (a : Int) (w : World) (h1 : s.size ≤ 12000) (h2 : 0 ≤ a) (h3 : a ≤ 8 * s.size) :
    Calls Tryd.prog 25 #[.agg #[.string s, .int .i64 a]] w fun e w' => e = .returned (.tuple #[.agg #[.string s, .int .i64 (8 * ((a + 7) / 8))], .bool true]) ∧ Below w.heap.size w w' := by
  have d1 : decide ((12000 : Int) < s.size) = false := by simp; omega
  have ec : (a + 7) / 8 * 8 = 8 * ((a + 7) / 8) := Int.mul_comm _ _
  go_enter Tryd.func25, Tryd.ntmps25
  go_wp2_with fail
  refine (in_yes _ _ _ _ (by omega) (by omega)).mono ?_
  rintro e w1 ⟨rfl, rfl⟩
  go_wp2_with fail
  refine bodyPost_ret (v := .tuple #[.agg #[.string s, .int .i64 (8 * ((a + 7) / 8))], .bool true]) (by simp [results, Tryd.results25, go_sem]) rfl ⟨rfl, bal (bstart _ _) _⟩

set_option maxHeartbeats 400000 in
theorem specNext_no (s : ByteArray) (a : Int) (w : World) (hs : s.size ≤ maxLen) (h : ¬ (s.size ≤ 12000 ∧ 0 ≤ a ∧ a ≤ 8 * s.size)) :
    Calls Tryd.prog 25 #[.agg #[.string s, .int .i64 a]] w fun e w' => e = .returned (.tuple #[.agg #[.string ⟨#[]⟩, .int .i64 0], .bool false]) ∧ Below w.heap.size w w' := by
  unfold maxLen at hs
  by_cases h1 : (12000 : Int) < s.size
  · clear h
    go_enter Tryd.func25, Tryd.ntmps25
    go_wp2
    refine bodyPost_ret (v := .tuple #[.agg #[.string ⟨#[]⟩, .int .i64 0], .bool false]) (by simp [results, Tryd.results25, go_sem]) rfl ⟨rfl, bal (bstart _ _) _⟩
  · have d1 : decide ((12000 : Int) < s.size) = false := by simpa using h1
    have H : Hid (¬ (0 ≤ a ∧ a ≤ 8 * (s.size : Int))) := by intro k; exact h ⟨by omega, k⟩
    clear h
    go_enter Tryd.func25, Tryd.ntmps25
    go_wp2_with fail
    refine (in_no _ _ _ _ H.out).mono ?_
    rintro e w1 ⟨rfl, rfl⟩
    go_wp2_with fail
    refine bodyPost_ret (v := .tuple #[.agg #[.string ⟨#[]⟩, .int .i64 0], .bool false]) (by simp [results, Tryd.results25, go_sem]) rfl ⟨rfl, bal (bstart _ _) _⟩
end Go.Proofs.YtedbmhelmenknaaDoor
