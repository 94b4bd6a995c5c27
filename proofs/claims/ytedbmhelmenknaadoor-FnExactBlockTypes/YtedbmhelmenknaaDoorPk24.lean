/-
  The walks of the program's small functions on Runs: extra bits, times, whether one is right, how many are alike, the Run at a place.
-/
import Derived.Test.YtedbmhelmenknaaDoorRows
import Derived.Test.YtedbmhelmenknaaDoorPk01
import Derived.Test.YtedbmhelmenknaaDoorPk02
import Derived.Test.YtedbmhelmenknaaDoorPk05
import Derived.Test.YtedbmhelmenknaaDoorPk03
import Derived.WalkKit
import Derived.ProofKit
import Derived.WalkLawsBesides
import Derived.RegionTactic
import Derived.Below
import Derived.Sort.Grow
import Derived.Deep.QuietTactic
import Derived.Shelf.SlSortCmp.QuietGrown
import Derived.Lib.SmallJoins
namespace Go.Proofs.YtedbmhelmenknaaDoor
open Go.RowKit Go.Joins Go.Sort RunsMath CodeMath

/-- How many lengths a Run tells. -/
def timesOf (s x : Int) : Int := if s = 16 then 3 + x else if s = 17 then 3 + x else if s = 18 then 11 + x else 1
/-- A Run that tells something. -/
def RightRun (s x : Int) : Prop := 0 ≤ s ∧ s ≤ 18 ∧ 0 ≤ x ∧ x < 2 ^ bitsOf s

theorem extraBits_any (x : Int) (w : World) : Calls Tryd.prog 70 #[.int .i64 x] w fun e w' => e = .returned (.int .i64 ((bitsOf x : Nat) : Int)) ∧ w' = w := by
  unfold bitsOf
  by_cases h1 : x = 16
  · subst h1
    go_enter Tryd.func70, Tryd.ntmps70
    go_wp2_with fail
    go_ret
    exact ⟨rfl, rfl⟩
  · have d1 : (x == 16) = false := by simpa using h1
    rw [if_neg h1]
    by_cases h2 : x = 17
    · subst h2
      go_enter Tryd.func70, Tryd.ntmps70
      go_wp2_with fail
      go_ret
      exact ⟨rfl, rfl⟩
    · have d2 : (x == 17) = false := by simpa using h2
      rw [if_neg h2]
      by_cases h3 : x = 18
      · subst h3
        go_enter Tryd.func70, Tryd.ntmps70
        go_wp2_with fail
        go_ret
        exact ⟨rfl, rfl⟩
      · have d3 : (x == 18) = false := by simpa using h3
        rw [if_neg h3]
        go_enter Tryd.func70, Tryd.ntmps70
        go_wp2_with fail
        go_ret
        exact ⟨rfl, rfl⟩

theorem times_any (s x : Int) (w : World) (h0 : 0 ≤ x) (h1 : x ≤ 1000) : Calls Tryd.prog 81 #[.agg #[.int .i64 s, .int .i64 x]] w fun e w' => e = .returned (.int .i64 (timesOf s x)) ∧ w' = w.alloc (.cells #[.int .i64 s, .int .i64 x] 75) := by
  unfold timesOf
  by_cases h1 : s = 16
  · subst h1
    go_enter Tryd.func81, Tryd.ntmps81
    go_wp2_with fail
    go_ret
    exact ⟨rfl, rfl⟩
  · have d1 : (s == 16) = false := by simpa using h1
    rw [if_neg h1]
    by_cases h2 : s = 17
    · subst h2
      go_enter Tryd.func81, Tryd.ntmps81
      go_wp2_with fail
      go_ret
      exact ⟨rfl, rfl⟩
    · have d2 : (s == 17) = false := by simpa using h2
      rw [if_neg h2]
      by_cases h3 : s = 18
      · subst h3
        go_enter Tryd.func81, Tryd.ntmps81
        go_wp2_with fail
        go_ret
        exact ⟨rfl, rfl⟩
      · have d3 : (s == 18) = false := by simpa using h3
        rw [if_neg h3]
        go_enter Tryd.func81, Tryd.ntmps81
        go_wp2_with fail
        go_ret
        exact ⟨rfl, rfl⟩

/-- What isRight answers. -/
def RightPost (s x : Int) (w : World) (e : Ending) (w' : World) : Prop := ∃ b, e = .returned (.bool b) ∧ (b = true ↔ RightRun s x) ∧ ∃ k os', w' = grow (w.drewN k) os'
theorem pow_bits (s : Int) : bitsOf s ≤ 7 := by
  unfold bitsOf
  split
  · omega
  · split
    · omega
    · split <;> omega
theorem wrap_bits {m : Nat} (h : m ≤ 7) : IntKind.i64.wrap (2 ^ m) = 2 ^ m := by
  obtain h | h | h | h | h | h | h | h : m = 0 ∨ m = 1 ∨ m = 2 ∨ m = 3 ∨ m = 4 ∨ m = 5 ∨ m = 6 ∨ m = 7 := by omega
  all_goals (subst h; decide +kernel)
theorem grown_box (w : World) (o : Obj) (n : Nat) : ∃ k os', (w.alloc o).drewN n = grow (w.drewN k) os' := ⟨n, #[o], by rw [alloc_eq_grow]; rfl⟩

set_option maxHeartbeats 4000000 in
theorem right_any (s x : Int) (w : World) : Calls Tryd.prog 80 #[.agg #[.int .i64 s, .int .i64 x]] w (RightPost s x w) := by
  by_cases h0 : 0 ≤ s
  · have d0 : decide (0 ≤ s) = true := by simpa using h0
    by_cases h1 : s ≤ 18
    · have d1 : decide (s ≤ 18) = true := by simpa using h1
      by_cases h2 : 0 ≤ x
      · have d2 : decide (0 ≤ x) = true := by simpa using h2
        obtain ⟨m, hm⟩ : ∃ m, m = bitsOf s := ⟨_, rfl⟩
        have hc := fun W => extraBits_any s W
        rw [← hm] at hc
        have hm7 : m ≤ 7 := by rw [hm]; exact pow_bits s
        have HM := hid_of hm
        clear hm
        go_enter Tryd.func80, Tryd.ntmps80
        go_wp2_with fail
        go_quiet ((go_at_call 70; exact Calls.quiet_of_same (hc _)))
        go_wp2_with fail
        go_ret
        refine ⟨decide (x < IntKind.i64.wrap (2 ^ m)), rfl, ?_, grown_box _ _ _⟩
        rw [wrap_bits hm7, decide_eq_true_iff]
        unfold RightRun
        rw [← HM.out]
        exact ⟨fun h => ⟨h0, h1, h2, h⟩, fun h => h.2.2.2⟩
      · have d2 : decide (0 ≤ x) = false := by simpa using h2
        have HN : Hid (¬ RightRun s x) := fun h => h2 h.2.2.1
        go_enter Tryd.func80, Tryd.ntmps80
        go_wp2_with fail
        go_quiet (fail)
        go_wp2_with fail
        go_ret
        exact ⟨false, rfl, by simp [HN.out], grown_box _ _ _⟩
    · have d1 : decide (s ≤ 18) = false := by simpa using h1
      have HN : Hid (¬ RightRun s x) := fun h => h1 h.2.1
      go_enter Tryd.func80, Tryd.ntmps80
      go_wp2_with fail
      go_quiet (fail)
      go_wp2_with fail
      go_ret
      exact ⟨false, rfl, by simp [HN.out], grown_box _ _ _⟩
  · have d0 : decide (0 ≤ s) = false := by simpa using h0
    have HN : Hid (¬ RightRun s x) := fun h => h0 h.1
    go_enter Tryd.func80, Tryd.ntmps80
    go_wp2_with fail
    go_quiet (fail)
    go_wp2_with fail
    go_ret
    exact ⟨false, rfl, by simp [HN.out], grown_box _ _ _⟩

/-- What areLengths answers. -/
def ArePost (f : Nat → Int) (n : Nat) (w : World) (e : Ending) (w' : World) : Prop := ∃ b, e = .returned (.bool b) ∧ (b = true ↔ OkLens f n) ∧ w' = w

/-- How many lengths from place i on are the one there. -/
def alikeN (f : Nat → Int) (n i : Nat) : Nat := sameN f n (f i) n i

end Go.Proofs.YtedbmhelmenknaaDoor
