/-
  The walk of the document's model of the lengths of type 1.
-/
import Derived.Test.YtaajieeenjdnbaaRows
import Derived.Test.YtaajieeenjdnbaaBase
import Derived.Test.YtaajieeenjdnbaaIntsLib
import Derived.Test.YtaajieeenjdnbaaTellsSpec
import Derived.Test.YtaajieeenjdnbaaInfMath
import Derived.WalkKit
import Derived.ProofKit
import Derived.WalkLawsBesides
import Derived.OwnWalk
import Derived.Deep.LoopGhost
import Derived.Deep.AppendLies
import Derived.Below
import Derived.Lib.SmallJoins
namespace Go.Proofs.Ytaajieeenjdnbaa
open Go.RowKit Go.Joins InfMath

/-- The first j lengths. -/
def firstJ (f : Nat → Int) (j : Nat) : List Int := (List.range j).map f
theorem firstJ_next (f : Nat → Int) (j : Nat) : firstJ f (j + 1) = firstJ f j ++ [f j] := by simp [firstJ, List.range_succ]
theorem firstJ_length (f : Nat → Int) (j : Nat) : (firstJ f j).length = j := by simp [firstJ]
theorem firstJ_getD (f : Nat → Int) {j i : Nat} (h : i < j) : (firstJ f j).getD i 0 = f i := by simp [firstJ, List.getD_eq_getElem?_getD, List.getElem?_map, List.getElem?_range h]
/-- What the rings have at hand. -/
def FixSt (w w' : World) (v : Value) (j : Nat) : Prop := NumRow w' w.heap.size v (firstJ fixed1 j) ∧ Below w.heap.size w w'
def FixSt2 (w w' : World) (K : Nat) (v v2 : Value) (j : Nat) : Prop := NumRow w' w.heap.size v (firstJ fixed1 288) ∧ NumRow w' K v2 (firstJ fixed2 j) ∧ (∀ k, v.ownBlock = some k → k < K) ∧ Below w.heap.size w w' ∧ w.heap.size ≤ K ∧ K ≤ w'.heap.size

set_option maxHeartbeats 1600000 in
theorem specFixed (w : World) :
    Calls Try.prog 4 #[] w fun e w' => ∃ v1 v2 K, e = .returned (.tuple #[v1, v2]) ∧ FixSt2 w w' K v1 v2 32 := by
  have H0 : Hid (FixSt w (w.alloc (.cells #[] 3)) (.slice (some ⟨w.heap.size, 0, none⟩) 0 0) 0) := ⟨NumRow.empty w w.heap.size (Nat.le_refl _), bstart _ _⟩
  go_enter Try.func4, Try.ntmps4
  go_wp2_with fail
  go_loopg [2, 3] 289 (fun gk v z w' => ∃ j : Nat, j ≤ 288 ∧ z = .int .i64 j ∧ 288 - j ≤ gk ∧ Hid (FixSt w w' v j))
  case atStart => exact ⟨0, Nat.zero_le _, rfl, by omega, H0⟩
  case round =>
    clear H0
    obtain ⟨j, hj, rfl, hk, hS⟩ := hrel
    by_cases hlt : j < 288
    · have dl : decide ((j : Int) < 288) = true := decide_eq_true (by omega)
      have dl2 : (j : Int) < 288 := by omega
      have hs := hS.out.2.size
      have key : ∀ (x : Int), x = fixed1 j → ∀ v1 w1, NumRow w1 w.heap.size v1 (firstJ fixed1 j ++ [x]) → (wr.alloc (.cells #[.int .i64 x] 3)).grownBy w1 u2.ownBlock → Hid (FixSt w w1 v1 (j + 1)) := by
        intro x hx v1 w1 y1 y2
        refine ⟨?_, (bal hS.out.2 _).grown y2 (by simp; omega) (fun q hq => (hS.out.1.lt q hq).1)⟩
        rw [firstJ_next, ← hx]
        exact y1
      have HKEY := hid_of key
      clear key
      by_cases q1 : j < 144
      · have c1 : decide ((144 : Int) ≤ (j : Int)) = false := decide_eq_false (by omega)
        have c2 : ¬ (144 : Int) ≤ (j : Int) := by omega
        have c3 : decide ((256 : Int) ≤ (j : Int)) = false := decide_eq_false (by omega)
        have c4 : ¬ (256 : Int) ≤ (j : Int) := by omega
        go_wp2_with (at_builtin; refine nums_append (S := w.heap.size) (xs := firstJ fixed1 j) (ys := [8]) rfl _ _ rfl rfl (hS.out.1.called (bstart _ _)) (some ⟨wr.heap.size, 0, none⟩) 1 1 rfl rfl (fun ad e => by cases e; exact World.news_of_block (cs := #[.int .i64 (8)]) (t := 3) (fr := (0, 0)) (heap_alloc_new wr _)) (fun h => by cases h) (by rw [firstJ_length]; simp only [List.length_cons, List.length_nil]; omega) (by simp; omega) ?_)
        intro v1 w1 y1 y2
        have HS1 := HKEY.out 8 (by unfold fixed1; rw [if_pos q1]) v1 w1 y1 y2
        clear y1 y2 HKEY hS
        go_wp2_with fail
        go_roundg (288 - (j + 1))
        case measure => omega
        case rel => exact ⟨j + 1, by omega, by go_num, Nat.le_refl _, HS1⟩
      · have c1 : decide ((144 : Int) ≤ (j : Int)) = true := decide_eq_true (by omega)
        have c2 : (144 : Int) ≤ (j : Int) := by omega
        by_cases q2 : j < 256
        · have c3 : decide ((256 : Int) ≤ (j : Int)) = false := decide_eq_false (by omega)
          have c4 : ¬ (256 : Int) ≤ (j : Int) := by omega
          have c5 : decide ((j : Int) < 256) = true := decide_eq_true (by omega)
          have c6 : (j : Int) < 256 := by omega
          go_wp2_with (at_builtin; refine nums_append (S := w.heap.size) (xs := firstJ fixed1 j) (ys := [9]) rfl _ _ rfl rfl (hS.out.1.called (bstart _ _)) (some ⟨wr.heap.size, 0, none⟩) 1 1 rfl rfl (fun ad e => by cases e; exact World.news_of_block (cs := #[.int .i64 (9)]) (t := 3) (fr := (0, 0)) (heap_alloc_new wr _)) (fun h => by cases h) (by rw [firstJ_length]; simp only [List.length_cons, List.length_nil]; omega) (by simp; omega) ?_)
          intro v1 w1 y1 y2
          have HS1 := HKEY.out 9 (by unfold fixed1; rw [if_neg q1, if_pos q2]) v1 w1 y1 y2
          clear y1 y2 HKEY hS
          go_wp2_with fail
          go_roundg (288 - (j + 1))
          case measure => omega
          case rel => exact ⟨j + 1, by omega, by go_num, Nat.le_refl _, HS1⟩
        · have c3 : decide ((256 : Int) ≤ (j : Int)) = true := decide_eq_true (by omega)
          have c4 : (256 : Int) ≤ (j : Int) := by omega
          have c5 : decide ((j : Int) < 256) = false := decide_eq_false (by omega)
          have c6 : ¬ (j : Int) < 256 := by omega
          by_cases q3 : j < 280
          · have c7 : decide ((j : Int) < 280) = true := decide_eq_true (by omega)
            have c8 : (j : Int) < 280 := by omega
            go_wp2_with (at_builtin; refine nums_append (S := w.heap.size) (xs := firstJ fixed1 j) (ys := [7]) rfl _ _ rfl rfl (hS.out.1.called (bstart _ _)) (some ⟨wr.heap.size, 0, none⟩) 1 1 rfl rfl (fun ad e => by cases e; exact World.news_of_block (cs := #[.int .i64 (7)]) (t := 3) (fr := (0, 0)) (heap_alloc_new wr _)) (fun h => by cases h) (by rw [firstJ_length]; simp only [List.length_cons, List.length_nil]; omega) (by simp; omega) ?_)
            intro v1 w1 y1 y2
            have HS1 := HKEY.out 7 (by unfold fixed1; rw [if_neg q1, if_neg q2, if_pos q3]) v1 w1 y1 y2
            clear y1 y2 HKEY hS
            go_wp2_with fail
            go_roundg (288 - (j + 1))
            case measure => omega
            case rel => exact ⟨j + 1, by omega, by go_num, Nat.le_refl _, HS1⟩
          · have c7 : decide ((j : Int) < 280) = false := decide_eq_false (by omega)
            have c8 : ¬ (j : Int) < 280 := by omega
            go_wp2_with (at_builtin; refine nums_append (S := w.heap.size) (xs := firstJ fixed1 j) (ys := [8]) rfl _ _ rfl rfl (hS.out.1.called (bstart _ _)) (some ⟨wr.heap.size, 0, none⟩) 1 1 rfl rfl (fun ad e => by cases e; exact World.news_of_block (cs := #[.int .i64 (8)]) (t := 3) (fr := (0, 0)) (heap_alloc_new wr _)) (fun h => by cases h) (by rw [firstJ_length]; simp only [List.length_cons, List.length_nil]; omega) (by simp; omega) ?_)
            intro v1 w1 y1 y2
            have HS1 := HKEY.out 8 (by unfold fixed1; rw [if_neg q1, if_neg q2, if_neg q3]) v1 w1 y1 y2
            clear y1 y2 HKEY hS
            go_wp2_with fail
            go_roundg (288 - (j + 1))
            case measure => omega
            case rel => exact ⟨j + 1, by omega, by go_num, Nat.le_refl _, HS1⟩
    · obtain rfl : j = 288 := by omega
      have dl : decide (((288 : Nat) : Int) < 288) = false := decide_eq_false (by omega)
      have HS2 : Hid (FixSt2 w (wr.alloc (.cells #[] 3)) wr.heap.size u2 (.slice (some ⟨wr.heap.size, 0, none⟩) 0 0) 0) := ⟨hS.out.1.called (bstart _ _), NumRow.empty wr wr.heap.size (Nat.le_refl _), fun k hk => (hS.out.1.lt k hk).2, bal hS.out.2 _, hS.out.2.size, by simp⟩
      have hKs : wr.heap.size ≤ (wr.alloc (.cells #[] 3)).heap.size := by simp
      clear hS
      go_wp2_with fail
      generalize wr.alloc (.cells #[] 3) = W2 at HS2 hKs
      generalize wr.heap.size = K at HS2 hKs
      go_loopg [5, 6] 33 (fun gk v z w' => ∃ j : Nat, j ≤ 32 ∧ z = .int .i64 j ∧ 32 - j ≤ gk ∧ Hid (FixSt2 w w' K u2 v j))
      case atStart => exact ⟨0, Nat.zero_le _, rfl, by omega, HS2⟩
      case round =>
        clear HS2
        obtain ⟨j, hj, rfl, hk, hS⟩ := hrel
        by_cases hlt : j < 32
        · have dl : decide ((j : Int) < 32) = true := decide_eq_true (by omega)
          have dl2 : (j : Int) < 32 := by omega
          have hs := hS.out.2.2.2.1.size
          have hb2 := hS.out.2.2.2.2.2
          go_wp2_with (at_builtin; refine nums_append (S := K) (xs := firstJ fixed2 j) (ys := [5]) rfl _ _ rfl rfl (hS.out.2.1.called (bstart _ _)) (some ⟨wr.heap.size, 0, none⟩) 1 1 rfl rfl (fun ad e => by cases e; exact World.news_of_block (cs := #[.int .i64 (5)]) (t := 3) (fr := (0, 0)) (heap_alloc_new wr _)) (fun h => by cases h) (by rw [firstJ_length]; simp only [List.length_cons, List.length_nil]; omega) (by simp; omega) ?_)
          intro v1 w1 y1 y2
          have HS1 : Hid (FixSt2 w w1 K u2 v1 (j + 1)) := by
            refine ⟨World.ownsRow.kept (hS.out.1.called (bstart _ _)) y2 ?_, ?_, hS.out.2.2.1, (bal hS.out.2.2.2.1 _).grown y2 (by simp; omega) (fun q hq => Nat.le_trans hS.out.2.2.2.2.1 (World.ownsRow.lt hS.out.2.1 q hq).1), hS.out.2.2.2.2.1, by have := y2.size; simp at this; omega⟩
            · cases e : u2.ownBlock with
              | none => exact .inl rfl
              | some k =>
                refine .inr (fun e1 => ?_)
                have h1 := hS.out.2.2.1 k e
                have h2 := (World.ownsRow.lt hS.out.2.1 k e1.symm).1
                omega
            · rw [firstJ_next]
              exact y1
          clear y1 y2 hS
          go_wp2_with fail
          go_roundg (32 - (j + 1))
          case measure => omega
          case rel => exact ⟨j + 1, by omega, by go_num, Nat.le_refl _, HS1⟩
        · obtain rfl : j = 32 := by omega
          have dl : decide (((32 : Nat) : Int) < 32) = false := decide_eq_false (by omega)
          go_wp2_with fail
          go_ret2
          exact ⟨u2, u5, K, rfl, hS.out⟩

end Go.Proofs.Ytaajieeenjdnbaa
