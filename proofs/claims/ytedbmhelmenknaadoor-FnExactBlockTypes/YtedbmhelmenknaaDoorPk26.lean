/-
  The lengths that Runs tell, beside an unpacking under way and the third code.
  The walks of the document's model of Runs: how often a length follows, and the Runs of lengths.
-/
import Derived.Test.YtedbmhelmenknaaDoorPk21
import Derived.Test.YtedbmhelmenknaaDoorRows
import Derived.Test.YtedbmhelmenknaaDoorPk01
import Derived.Test.YtedbmhelmenknaaDoorPk05
import Derived.Test.YtedbmhelmenknaaDoorPk07
import Derived.Test.YtedbmhelmenknaaDoorPk02
import Derived.Test.YtedbmhelmenknaaDoorPk03
import Derived.WalkKit
import Derived.ProofKit
import Derived.WalkLawsBesides
import Derived.Deep.LoopGhost
import Derived.OwnWalk
import Derived.Lib.SmallJoins
namespace Go.Proofs.YtedbmhelmenknaaDoor
open Go.RowKit Go.Joins OutMath CodeMath TakeMath InfMath

/-- The state, the third code's lengths in g3, its codes in g5, and the lengths so far (v), in blocks from K on. -/
def AlI (w0 w : World) (b : Nat) (s : ByteArray) (p : Nat) (O : List Int) (most c : Nat) (Ty : List Int) (vo vt : Value) (g3 : Nat) (f3 : Nat → Int) (g5 K : Nat) (v : Value) (L : List Int) : Prop :=
  ThI w0 w b s p O most c Ty vo vt g3 f3 ∧ IOwn w g5 g5 19 19 (codeOf f3 19) ∧ NumRow w K v L ∧ (g5 ≠ b ∧ g5 < K ∧ g3 < K ∧ b < K ∧ K ≤ w.heap.size) ∧ (∀ k, vo.ownBlock = some k → k < K) ∧ (∀ k, vt.ownBlock = some k → k < K) ∧ w0.heap.size ≤ K
section
variable {w0 w w' : World} {b : Nat} {s : ByteArray} {p : Nat} {O : List Int} {most c : Nat} {Ty : List Int} {vo vt : Value} {g3 : Nat} {f3 : Nat → Int} {g5 K : Nat} {v : Value} {L : List Int}
/-- What turns a block that is none of these. -/
theorem RS.other {row : Option Nat} (h : RS w0 w b s p O most c Ty vo vt) (hg : w.grownBy w' row) (hb : row ≠ some b) (hv : vo.ownBlock = none ∨ vo.ownBlock ≠ row) (ht : vt.ownBlock = none ∨ vt.ownBlock ≠ row) (hr : ∀ k, row = some k → w0.heap.size ≤ k) : RS w0 w' b s p O most c Ty vo vt := by
  obtain ⟨h1, h2, h3, h4, h5, h6, h7⟩ := h
  exact ⟨(hg.block b h1.lt (fun e => hb e.symm)).trans h1, World.ownsRow.kept h2 hg hv, World.ownsRow.kept h3 hg ht, h4, h5, h6.grown hg h6.size hr, h7⟩
theorem own_low {x : Value} {row : Option Nat} (h : ∀ k, x.ownBlock = some k → k < K) (hr : ∀ k, row = some k → K ≤ k) : x.ownBlock = none ∨ x.ownBlock ≠ row := by
  cases e : x.ownBlock with
  | none => exact .inl rfl
  | some k =>
    refine .inr (fun e1 => ?_)
    have h1 := h k e
    have h2 := hr k e1.symm
    omega
/-- What turns a block from K on. -/
theorem AlI.base {row : Option Nat} (h : AlI w0 w b s p O most c Ty vo vt g3 f3 g5 K v L) (hg : w.grownBy w' row) (hr : ∀ k, row = some k → K ≤ k) : ThI w0 w' b s p O most c Ty vo vt g3 f3 ∧ IOwn w' g5 g5 19 19 (codeOf f3 19) := by
  obtain ⟨⟨h1, h2, h3, h4, h5, h6⟩, hI, hN, ⟨q1, q2, q3, q4, q5⟩, hv, ht, hw⟩ := h
  have ne : ∀ g, g < K → row ≠ some g := fun g hg' e => by
    have := hr g e
    omega
  exact ⟨⟨h1.other hg (ne b q4) (own_low hv hr) (own_low ht hr) (fun k e => Nat.le_trans hw (hr k e)), h2.grown hg (ne g3 q3), h3, h4, h5, h6⟩, hI.grown hg (ne g5 q2)⟩
theorem AlI.turned {p' c' : Nat} (h : AlI w0 w b s p O most c Ty vo vt g3 f3 g5 K v L) (hr : RB w' b s p' vo most c' vt) (hg : w.grownBy w' (some b)) : AlI w0 w' b s p' O most c' Ty vo vt g3 f3 g5 K v L := by
  obtain ⟨h1, hI, hN, ⟨q1, q2, q3, q4, q5⟩, hv, ht, hw⟩ := h
  refine ⟨h1.turned hr hg, hI.grown hg (fun e => q1 (by cases e; rfl)), World.ownsRow.kept hN hg (.inr (fun e => ?_)), ⟨q1, q2, q3, q4, Nat.le_trans q5 hg.size⟩, hv, ht, hw⟩
  have := (World.ownsRow.lt hN b e).1
  omega
theorem AlI.called (h : AlI w0 w b s p O most c Ty vo vt g3 f3 g5 K v L) (hb : Below w.heap.size w w') : AlI w0 w' b s p O most c Ty vo vt g3 f3 g5 K v L := h.turned (h.1.1.1.called hb) (grown_called hb _)
theorem AlI.setCode (h : AlI w0 w b s p O most c Ty vo vt g3 f3 g5 K v L) (x : Nat) : AlI w0 (w.setCell ⟨b, 4, none⟩ (.int .i64 (x : Int))) b s p O most x Ty vo vt g3 f3 g5 K v L := h.turned (h.1.1.1.code x) (grown_cell _ _ _ _)
/-- A cell of a block from K on that is not the lengths'. -/
theorem AlI.cell (h : AlI w0 w b s p O most c Ty vo vt g3 f3 g5 K v L) {g j : Nat} (hg : K ≤ g) (hv : v.ownBlock ≠ some g) (x : Value) : AlI w0 (w.setCell ⟨g, j, none⟩ x) b s p O most c Ty vo vt g3 f3 g5 K v L := by
  have hgr := grown_cell w g j x
  obtain ⟨b1, b2⟩ := h.base hgr (fun k e => by cases e; exact hg)
  exact ⟨b1, b2, World.ownsRow.kept h.2.2.1 hgr (.inr hv), ⟨h.2.2.2.1.1, h.2.2.2.1.2.1, h.2.2.2.1.2.2.1, h.2.2.2.1.2.2.2.1, Nat.le_trans h.2.2.2.1.2.2.2.2 hgr.size⟩, h.2.2.2.2⟩
/-- More lengths are put behind. -/
theorem AlI.more {v' : Value} {L' : List Int} (h : AlI w0 w b s p O most c Ty vo vt g3 f3 g5 K v L) (y1 : NumRow w' K v' L') (y2 : w.grownBy w' v.ownBlock) : AlI w0 w' b s p O most c Ty vo vt g3 f3 g5 K v' L' := by
  obtain ⟨b1, b2⟩ := h.base y2 (fun k e => (World.ownsRow.lt h.2.2.1 k e).1)
  exact ⟨b1, b2, y1, ⟨h.2.2.2.1.1, h.2.2.2.1.2.1, h.2.2.2.1.2.2.1, h.2.2.2.1.2.2.2.1, Nat.le_trans h.2.2.2.1.2.2.2.2 y2.size⟩, h.2.2.2.2⟩
/-- The start: nothing is told so far. -/
theorem AlI.start (h : ThI w0 w b s p O most c Ty vo vt g3 f3) (hI : IOwn w g5 g5 19 19 (codeOf f3 19)) (hb : g5 ≠ b) : AlI w0 (w.alloc (.cells #[] 3)) b s p O most c Ty vo vt g3 f3 g5 w.heap.size (.slice (some ⟨w.heap.size, 0, none⟩) 0 0) [] := by
  refine ⟨h.called (bstart _ _), hI.called (bstart _ _), NumRow.empty w w.heap.size (Nat.le_refl _), ⟨hb, hI.lt, h.2.1.lt, h.1.lt, by simp⟩, fun k e => (World.ownsRow.lt h.1.2.1 k e).2, fun k e => (World.ownsRow.lt h.1.2.2.1 k e).2, h.1.2.2.2.2.2.1.size⟩
end

end Go.Proofs.YtedbmhelmenknaaDoor

namespace Go.Proofs.YtedbmhelmenknaaDoor
open Go.RowKit Go.Joins OutMath CodeMath RunsMath

/-- What l03Room answers of at most M lengths, but for the number. -/
def RoomM (f : Nat → Int) (n M : Nat) (w : World) (e : Ending) (w' : World) : Prop :=
  ∃ (x : Int) (b : Bool), e = .returned (.tuple #[.int .i64 x, .bool b]) ∧ w' = w ∧ ((b = true ∧ n ≤ M ∧ OkLens f n) ∨ (b = false ∧ ¬ (n ≤ M ∧ OkLens f n)))
theorem RoomM.yes {f : Nat → Int} {n M : Nat} {w : World} {x : Int} (h1 : n ≤ M) (h2 : OkLens f n) : RoomM f n M w (.returned (.tuple #[.int .i64 x, .bool true])) w := ⟨_, true, rfl, rfl, .inl ⟨rfl, h1, h2⟩⟩
theorem RoomM.no {f : Nat → Int} {n M : Nat} {w : World} (h : ¬ (n ≤ M ∧ OkLens f n)) : RoomM f n M w (.returned (.tuple #[.int .i64 0, .bool false])) w := ⟨_, false, rfl, rfl, .inr ⟨rfl, h⟩⟩

set_option maxHeartbeats 800000 in
theorem specRoomM (a : Option Addr) (n cap M : Nat) (f : Nat → Int) (w : World) (hC : Came w a n f) (hn : n ≤ 1048576) (hM : M ≤ 100000) :
    Calls Tryd.prog 47 #[.slice a n cap, .int .i64 (M : Int)] w (RoomM f n M w) := by
  have HC : Hid (Came w a n f) := hC
  clear hC
  by_cases hm : n ≤ M
  · have dm : decide ((M : Int) < (n : Int)) = false := decide_eq_false (by omega)
    have dm2 : decide (M < n) = false := decide_eq_false (by omega)
    go_enter Tryd.func47, Tryd.ntmps47
    go_wp2_with fail
    go_loop [6, 7] (fun x i => ∃ j : Nat, j ≤ n ∧ i = .int .i64 j ∧ x = .int .i64 (room f j) ∧ Hid (OkLens f j)) (fun _ i => n - (intOf i).toNat)
    case atStart => exact ⟨0, Nat.zero_le _, rfl, rfl, fun i hi => absurd hi (Nat.not_lt_zero i)⟩
    case round =>
      obtain ⟨j, hj, rfl, rfl, hok⟩ := hrel
      by_cases hlt : j < n
      · have hr := room_bd f j
        have hr2 := hr.2 hok.out
        have hr1 := hr.1
        clear hr
        rcases HC.out with h0 | ⟨g, off, rfl, hg, hc⟩
        · omega
        · have c0 := hc j hlt
          clear hc
          by_cases hin : 0 ≤ f j ∧ f j ≤ 15
          · have HK : Hid (OkLens f (j + 1)) := fun i hi => by
              by_cases e : i = j
              · rw [e]; exact hin
              · exact hok.out i (by omega)
            obtain ⟨i0, i1⟩ := hin
            go_wp2_with fail
            refine (in_yes _ _ _ _ i0 i1).mono ?_
            rintro e w1 ⟨rfl, rfl⟩
            by_cases hpos : 0 < f j
            · have HR : Hid (room f (j + 1) = room f j + p2 (15 - f j).toNat) := by
                show room f j + (if 0 < f j then p2 (15 - f j).toNat else 0) = _
                rw [if_pos hpos]
              have hp := p2_le (show (15 - f j).toNat ≤ 15 by omega)
              have hp2 : p2 15 = 32768 := by decide +kernel
              have hp3 := p2_pos (15 - f j).toNat
              go_wp2_with fail
              refine (pow_int _ _ (by omega) (by omega)).mono ?_
              rintro e w1 ⟨rfl, rfl⟩
              go_wp2_with fail
              go_round
              case rel => exact ⟨j + 1, by omega, by go_num, by rw [HR.out], HK⟩
              case measure => simp [intOf]; omega
            · have HR : Hid (room f (j + 1) = room f j) := by
                show room f j + (if 0 < f j then p2 (15 - f j).toNat else 0) = _
                rw [if_neg hpos]; omega
              have d : decide (0 < f j) = false := by simpa using hpos
              go_wp2_with fail
              go_round
              case rel => exact ⟨j + 1, by omega, by go_num, by rw [HR.out], HK⟩
              case measure => simp [intOf]; omega
          · have HN : Hid (¬ (0 ≤ f j ∧ f j ≤ 15)) := hin
            clear hin
            go_wp2_with fail
            refine (in_no _ _ _ _ HN.out).mono ?_
            rintro e w1 ⟨rfl, rfl⟩
            go_wp2_with fail
            go_ret2
            exact RoomM.no (fun h => HN.out (h.2 j hlt))
      · obtain rfl : j = n := by omega
        go_wp2_with fail
        go_ret2
        exact RoomM.yes hm hok.out
  · have dm : decide ((M : Int) < (n : Int)) = true := decide_eq_true (by omega)
    have dm2 : decide (M < n) = true := decide_eq_true (by omega)
    go_enter Tryd.func47, Tryd.ntmps47
    go_wp2_with fail
    go_ret2
    exact RoomM.no (fun h => hm h.1)

/-- Lengths that Runs are made of. -/
def RunsRight (f : Nat → Int) (n : Nat) : Prop := n ≤ 320 ∧ OkLens f n
theorem sameAt_succ (f : Nat → Int) (n p : Nat) : sameAt f n (p + 1) = sameN f n (f p) 6 (p + 1) := by
  unfold sameAt
  rw [if_neg (by omega), Nat.add_sub_cancel]
theorem runAt_18 {f : Nat → Int} {n i z : Nat} (hz : z = zerosAt f n i) (h : 11 ≤ z) : runAt f n i = ((18, (z : Int) - 11), z) := by
  subst hz
  unfold runAt
  rw [if_pos h]
theorem runAt_17 {f : Nat → Int} {n i z : Nat} (hz : z = zerosAt f n i) (h : ¬ 11 ≤ z) (h3 : 3 ≤ z) : runAt f n i = ((17, (z : Int) - 3), z) := by
  subst hz
  unfold runAt
  rw [if_neg h, if_pos h3]
theorem runAt_16 {f : Nat → Int} {n i z q : Nat} (hz : z = zerosAt f n i) (hq : q = sameAt f n i) (h : ¬ 11 ≤ z) (h3 : ¬ 3 ≤ z) (h4 : 3 ≤ q) : runAt f n i = ((16, (q : Int) - 3), q) := by
  subst hz hq
  unfold runAt
  rw [if_neg h, if_neg h3, if_pos h4]
theorem runAt_x {f : Nat → Int} {n i z q : Nat} (hz : z = zerosAt f n i) (hq : q = sameAt f n i) (h : ¬ 11 ≤ z) (h3 : ¬ 3 ≤ z) (h4 : ¬ 3 ≤ q) : runAt f n i = ((f i, 0), 1) := by
  subst hz hq
  unfold runAt
  rw [if_neg h, if_neg h3, if_neg h4]

/-- What the ring of the model's RunsOf has at hand. -/
def RunSt (w w' : World) (f : Nat → Int) (n i : Nat) (v : Value) (O : List (Int × Int)) : Prop := w'.ownsRow w.heap.size 75 2 v O.length (dcells O) ∧ Below w.heap.size w w' ∧ O ++ rest f n i = rest f n 0 ∧ O.length ≤ i
theorem run_next {w w' w1 : World} {f : Nat → Int} {n i : Nat} {v v1 : Value} {O : List (Int × Int)} {o : Obj} {r : Int × Int} {k : Nat} (h : RunSt w w' f n i v O) (hi : i < n) (hr : runAt f n i = (r, k)) (hown : w1.ownsRow w.heap.size 75 2 v1 (O ++ [r]).length (dcells (O ++ [r]))) (hg : (w'.alloc o).grownBy w1 v.ownBlock) : RunSt w w1 f n (i + k) v1 (O ++ [r]) := by
  obtain ⟨h1, h2, h3, h4⟩ := h
  have hs := h2.size
  refine ⟨hown, (bal h2 o).grown hg (by simp; omega) (fun q hq => (h1.lt q hq).1), ?_, ?_⟩
  · rw [rest_more hi, hr] at h3
    rw [← h3]
    simp
  · have := runAt_pos f n i
    rw [hr] at this
    rw [List.length_append, List.length_singleton]
    have : 1 ≤ k := this
    omega

/-- How many extra bits a symbol has. -/
theorem specBits (x : Int) (w : World) : Calls Tryd.prog 34 #[.int .i64 x] w fun e w' => e = .returned (.int .i64 ((bitsOf x : Nat) : Int)) ∧ w' = w := by
  by_cases h1 : x = 16
  · subst h1
    go_enter Tryd.func34, Tryd.ntmps34
    go_wp2_with fail
    go_ret
    exact ⟨rfl, rfl⟩
  · by_cases h2 : x = 17
    · subst h2
      go_enter Tryd.func34, Tryd.ntmps34
      go_wp2_with fail
      go_ret
      exact ⟨rfl, rfl⟩
    · by_cases h3 : x = 18
      · subst h3
        go_enter Tryd.func34, Tryd.ntmps34
        go_wp2_with fail
        go_ret
        exact ⟨rfl, rfl⟩
      · have HB : Hid (bitsOf x = 0) := by
          show bitsOf x = 0
          unfold bitsOf
          rw [if_neg h1, if_neg h2, if_neg h3]
        have d1 : (x == 16) = false := by simpa using h1
        have d2 : (x == 17) = false := by simpa using h2
        have d3 : (x == 18) = false := by simpa using h3
        clear h1 h2 h3
        go_enter Tryd.func34, Tryd.ntmps34
        go_wp2_with fail
        go_ret
        exact ⟨congrArg (fun q : Nat => Ending.returned (.int .i64 (q : Int))) HB.out.symm, rfl⟩

end Go.Proofs.YtedbmhelmenknaaDoor
