/-
  Slices of numbers that a call made itself, by what number stands where. Nothing here speaks of the program.
  The walk of the laws' sameInts, of two lists that are the same.
-/
import Derived.Test.YtcnlcbkgbcnloaaRows
import Derived.Test.YtcnlcbkgbcnloaaHk01
import Derived.Test.YtcnlcbkgbcnloaaHk02
import Derived.WalkKit
import Derived.Below
import Derived.OpenShut
import Derived.Laws.MakeOwn
import Derived.Lib.SmallJoins
import Derived.ProofKit
import Derived.WalkLawsBesides
import Derived.RegionTactic
import Derived.Deep.QuietTactic
namespace Go.Proofs.Ytcnlcbkgbcnloaa
open Go.RowKit Go.Joins

def fints (f : Nat → Int) (n : Nat) : List Value := (List.range n).map fun i => .int .i64 (f i)
/-- f with x at the place j. -/
def upd (f : Nat → Int) (j : Nat) (x : Int) : Nat → Int := fun i => if i = j then x else f i
theorem fints_length (f : Nat → Int) (n : Nat) : (fints f n).length = n := by simp [fints]
theorem fints_get (f : Nat → Int) (n j : Nat) (h : j < (fints f n).length) : (fints f n)[j] = .int .i64 (f j) := by simp [fints]
theorem fints_congr {f g : Nat → Int} {n : Nat} (h : ∀ i, i < n → f i = g i) : fints f n = fints g n := by
  unfold fints
  refine List.map_congr_left fun i hi => ?_
  rw [h i (List.mem_range.mp hi)]
theorem fints_set (f : Nat → Int) (n j : Nat) (x : Int) : (fints f n).set j (.int .i64 x) = fints (upd f j x) n := by
  refine List.ext_getElem (by simp [fints]) fun i h1 h2 => ?_
  rw [List.getElem_set, fints_get (upd f j x)]
  by_cases hij : j = i
  · subst hij
    rw [if_pos rfl]
    simp [upd]
  · have hji : ¬ i = j := fun h => hij h.symm
    rw [if_neg hij, fints_get]
    simp [upd, hji]
/-- The slice at the head of block g is the call's own and holds f 0, .., f (n - 1). -/
def IOwn (w : World) (base g n cap : Nat) (f : Nat → Int) : Prop := Own 3 w base g (.slice (some ⟨g, 0, none⟩) n cap) (fints f n)

section
variable {w w' : World} {base g n cap : Nat} {f : Nat → Int}
theorem IOwn.lt (h : IOwn w base g n cap f) : g < w.heap.size := Own.lt h
theorem IOwn.base_le (h : IOwn w base g n cap f) : base ≤ g := Own.base_le h
theorem IOwn.cell (h : IOwn w base g n cap f) (j : Nat) (hj : j < n) : w.cell? ⟨g, j, none⟩ = some (.int .i64 (f j)) := by
  have h' : j < (fints f n).length := by rw [fints_length]; exact hj
  rw [Own.cell h j h', fints_get]
theorem IOwn.free (h : IOwn w base g n cap f) (j : Nat) (hj : j < n) : w.frozen? ⟨g, j, none⟩ = false := Own.free h j (by rw [fints_length]; exact hj)
theorem IOwn.set (h : IOwn w base g n cap f) (j : Nat) (hj : j < n) (x : Int) : IOwn (w.setCell ⟨g, j, none⟩ (.int .i64 x)) base g n cap (upd f j x) := by
  have k := Own.set h j (by rw [fints_length]; exact hj) (.int .i64 x)
  rw [fints_set] at k
  exact k
theorem IOwn.congr {f' : Nat → Int} (h : IOwn w base g n cap f) (e : ∀ i, i < n → f i = f' i) : IOwn w base g n cap f' := by
  unfold IOwn at h ⊢
  rw [← fints_congr e]
  exact h
theorem IOwn.keep (h : IOwn w base g n cap f) (hk : w'.heap[g]? = w.heap[g]?) : IOwn w' base g n cap f := Own.keep h hk
theorem IOwn.alloc (h : IOwn w base g n cap f) (o : Obj) : IOwn (w.alloc o) base g n cap f := Own.alloc h o
theorem IOwn.drew (h : IOwn w base g n cap f) : IOwn w.drew base g n cap f := Own.drewN h 1
theorem IOwn.below {B : Nat} (h : IOwn w base g n cap f) (hb : Below B w w') (hg : g < B) : IOwn w' base g n cap f := Own.below h hb hg
/-- Behind a call that turned nothing old. -/
theorem IOwn.called (h : IOwn w base g n cap f) (hb : Below w.heap.size w w') : IOwn w' base g n cap f := Own.below h hb h.lt
theorem IOwn.mono {b : Nat} (h : IOwn w base g n cap f) (hb : b ≤ base) : IOwn w b g n cap f := Own.mono h hb
theorem IOwn.grown {row : Option Nat} (h : IOwn w base g n cap f) (hg : w.grownBy w' row) (hne : row ≠ some g) : IOwn w' base g n cap f := h.keep (hg.block g h.lt (Ne.symm hne))

theorem made_ints (n : Nat) : (madeCells #[Value.int .i64 0] n).toList = fints (fun _ => 0) n := by
  unfold madeCells fints
  rw [Array.toList_map, Array.toList_range]
  refine List.map_congr_left fun i _ => ?_
  simp [Nat.mod_one]

/-- 'make([]int, n)'. -/
theorem IOwn.made (w : World) (n : Nat) (hn : n ≤ maxLen) (hb : base ≤ w.heap.size) : IOwn (w.alloc (.cells (madeCells #[Value.int .i64 0] n) 3)) base w.heap.size n n (fun _ => 0) := by
  refine ⟨n, madeCells #[Value.int .i64 0] n, (0, 0), by rw [fints_length], hb, heap_alloc_new w _, .inl rfl, by rw [fints_length]; exact Nat.le_refl _, hn, by simp [madeCells], ?_⟩
  rw [made_ints, fints_length, List.take_of_length_le (by rw [fints_length]; exact Nat.le_refl _)]
end

/-- A slice of numbers that came in: it is empty, or its numbers lie from place 'off' of an old block on. -/
def Came (w : World) (a : Option Addr) (n : Nat) (f : Nat → Int) : Prop :=
  n = 0 ∨ ∃ g off, a = some ⟨g, off, none⟩ ∧ g < w.heap.size ∧ ∀ j, j < n → w.cell? ⟨g, off + j, none⟩ = some (.int .i64 (f j))
theorem Came.called {w w' : World} {a : Option Addr} {n : Nat} {f : Nat → Int} (h : Came w a n f) (hb : Below w.heap.size w w') : Came w' a n f := by
  rcases h with h | ⟨g, off, ha, hg, hc⟩
  · exact .inl h
  · exact .inr ⟨g, off, ha, Nat.lt_of_lt_of_le hg hb.size, fun j hj => (hb.cell (p := ⟨g, off + j, none⟩) hg).trans (hc j hj)⟩

/-- A slice that was handed back: it is empty, or the maker's own. -/
def SL (w : World) (base : Nat) (a : Option Addr) (n cap : Nat) (f : Nat → Int) : Prop := n = 0 ∨ ∃ g, a = some ⟨g, 0, none⟩ ∧ IOwn w base g n cap f
theorem SL.came {w : World} {base : Nat} {a : Option Addr} {n cap : Nat} {f : Nat → Int} (h : SL w base a n cap f) : Came w a n f := by
  rcases h with h | ⟨g, rfl, h⟩
  · exact .inl h
  · exact .inr ⟨g, 0, rfl, h.lt, fun j hj => by rw [Nat.zero_add]; exact h.cell j hj⟩
theorem SL.called {w w' : World} {base : Nat} {a : Option Addr} {n cap : Nat} {f : Nat → Int} (h : SL w base a n cap f) (hb : Below w.heap.size w w') : SL w' base a n cap f := by
  rcases h with h | ⟨g, rfl, h⟩
  · exact .inl h
  · exact .inr ⟨g, rfl, h.called hb⟩
theorem IOwn.sl {w : World} {base g n cap : Nat} {f : Nat → Int} (h : IOwn w base g n cap f) : SL w base (some ⟨g, 0, none⟩) n cap f := .inr ⟨g, rfl, h⟩
/-- An old slice behind what turned one new block. -/
theorem Came.grown {w w' : World} {a : Option Addr} {n B : Nat} {f : Nat → Int} {row : Option Nat} (h : Came w a n f) (hB : ∀ g off, a = some ⟨g, off, none⟩ → g < B) (hr : ∀ k, row = some k → B ≤ k) (hg : w.grownBy w' row) : Came w' a n f := by
  rcases h with h | ⟨g, off, ha, hlt, hc⟩
  · exact .inl h
  · refine .inr ⟨g, off, ha, Nat.lt_of_lt_of_le hlt hg.size, fun j hj => ?_⟩
    have hne : some g ≠ row := fun e => by have h1 := hB g off ha; have h2 := hr g e.symm; omega
    have hb := hg.block g hlt hne
    rw [← hc j hj]
    unfold World.cell?
    rw [hb]

end Go.Proofs.Ytcnlcbkgbcnloaa

namespace Go.Proofs.Ytcnlcbkgbcnloaa
open Go.RowKit Go.Joins

set_option maxHeartbeats 800000 in
theorem sameInts_same (a b : Option Addr) (n c1 c2 : Nat) (f : Nat → Int) (w : World) (ha : Came w a n f) (hb : Came w b n f) (hn : n ≤ 1048576) :
    Calls Try.prog 21 #[.slice a n c1, .slice b n c2] w fun e w' => e = .returned (.bool true) ∧ Below w.heap.size w w' := by
  have HA : Hid (Came w a n f) := ha
  have HB : Hid (Came w b n f) := hb
  clear ha hb
  go_enter Try.func21, Try.ntmps21
  go_wp2_with fail
  go_loopw [5] (fun i w' => ∃ (j : Nat), j ≤ n ∧ i = .int .i64 j ∧ Hid (Below w.heap.size w w')) (fun i _ => n - (intOf i).toNat)
  case atStart => exact ⟨0, Nat.zero_le _, rfl, Below.refl _ _⟩
  case round =>
    obtain ⟨j, hj, rfl, hBj⟩ := hrel
    by_cases hlt : j < n
    · rcases HA.out with h0 | ⟨g, off, rfl, hg, hc⟩
      · omega
      · rcases HB.out with h0 | ⟨g', off', rfl, hg', hc'⟩
        · omega
        · have k0 : wr.cell? ⟨g, off + j, none⟩ = some (.int .i64 (f j)) := (hBj.out.cell (p := ⟨g, off + j, none⟩) hg).trans (hc j hlt)
          have k1 : wr.cell? ⟨g', off' + j, none⟩ = some (.int .i64 (f j)) := (hBj.out.cell (p := ⟨g', off' + j, none⟩) hg').trans (hc' j hlt)
          have l0 : g < wr.heap.size := Nat.lt_of_lt_of_le hg hBj.out.size
          have l1 : g' < wr.heap.size := Nat.lt_of_lt_of_le hg' hBj.out.size
          clear hc hc'
          go_wp2_with fail
          go_region
          all_goals
            go_wp2_with fail
            go_roundw
            case rel => exact ⟨j + 1, by omega, by go_num, hBj.out.drew⟩
            case measure => simp [intOf]; omega
    · go_wp2_with fail
      go_ret
      exact ⟨rfl, hBj.out⟩

end Go.Proofs.Ytcnlcbkgbcnloaa
