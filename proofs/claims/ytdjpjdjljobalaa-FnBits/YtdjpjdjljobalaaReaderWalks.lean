/-
  The walks of the program's reader of bits: it is made, told, moved to a whole byte; what it gives up with is caught.
-/
import Derived.Test.YtdjpjdjljobalaaRows
import Derived.Test.YtdjpjdjljobalaaBase
import Derived.Test.YtdjpjdjljobalaaOutMath
import Derived.Test.YtdjpjdjljobalaaOutWalks
import Derived.WalkKit
import Derived.ProofKit
import Derived.WalkLawsBesides
import Derived.Defers
import Derived.Recover
import Derived.RegionTactic
import Derived.Deep.QuietTactic
import Derived.Deep.RegionWith
import Derived.BigQuiet
import Derived.Lib.SmallJoins
namespace Go.Proofs.Ytdjpjdjljobalaa
open Go.RowKit Go.Joins OutMath

/-- Block b is a reader of the text s that stands at bit a. -/
def Rd (w : World) (b : Nat) (s : ByteArray) (a : Int) : Prop := w.heap[b]? = some (.cells #[.string s, .int .i64 a] 86 (0, 0))
theorem Rd.c0 {w : World} {b : Nat} {s : ByteArray} {a : Int} (h : Rd w b s a) : w.cell? ⟨b, 0, none⟩ = some (.string s) := cell_of_block h 0
theorem Rd.c1 {w : World} {b : Nat} {s : ByteArray} {a : Int} (h : Rd w b s a) : w.cell? ⟨b, 1, none⟩ = some (.int .i64 a) := cell_of_block h 1
theorem Rd.f {w : World} {b : Nat} {s : ByteArray} {a : Int} (h : Rd w b s a) (i : Nat) : w.frozen? ⟨b, i, none⟩ = false := unfrozen_of_block h i
theorem Rd.set {w : World} {b : Nat} {s : ByteArray} {a : Int} (h : Rd w b s a) (x : Int) : Rd (w.setCell ⟨b, 1, none⟩ (.int .i64 x)) b s x := by
  have := block_setCell (i := 1) h (.int .i64 x)
  simpa [Rd] using this
theorem Rd.lt {w : World} {b : Nat} {s : ByteArray} {a : Int} (h : Rd w b s a) : b < w.heap.size := by
  rcases Nat.lt_or_ge b w.heap.size with k | k
  · exact k
  · unfold Rd at h; rw [Array.getElem?_eq_none k] at h; cases h

set_option maxHeartbeats 400000 in
theorem newReader_yes (s : ByteArray) (a : Int) (w : World) (h1 : s.size ≤ 12000) (h2 : 0 ≤ a) (h3 : a ≤ 8 * s.size) :
    Calls Try.prog 41 #[.agg #[.string s, .int .i64 a]] w fun e w' => e = .returned (.pointer (some ⟨w.heap.size + 1, 0, none⟩)) ∧ w' = (w.alloc (.cells #[.string s, .int .i64 a] 33)).alloc (.cells #[.string s, .int .i64 a] 86) := by
  have d1 : decide ((12000 : Int) < s.size) = false := by simp; omega
  have d2 : decide (a < 0) = false := by simp; omega
  have d3 : decide (8 * (s.size : Int) < a) = false := by simp; omega
  go_enter Try.func41, Try.ntmps41
  go_wp2
  go_ret
  exact ⟨rfl, rfl⟩

theorem newReader_at (s : ByteArray) (a : Int) (w : World) (h1 : s.size ≤ 12000) (h2 : 0 ≤ a) (h3 : a ≤ 8 * s.size) :
    Calls Try.prog 41 #[.agg #[.string s, .int .i64 a]] w fun e w' => ∃ b, e = .returned (.pointer (some ⟨b, 0, none⟩)) ∧ w.heap.size ≤ b ∧ Rd w' b s a ∧ Below w.heap.size w w' := by
  refine (newReader_yes s a w h1 h2 h3).mono ?_
  rintro e w1 ⟨rfl, rfl⟩
  refine ⟨w.heap.size + 1, rfl, by omega, ?_, below_alloc2 _ _ _⟩
  show ((w.heap.push _).push _)[w.heap.size + 1]? = _
  rw [Array.getElem?_push, if_pos (by simp)]

set_option maxHeartbeats 400000 in
theorem newReader_no (s : ByteArray) (a : Int) (w : World) (hs : s.size ≤ maxLen) (h : ¬ (s.size ≤ 12000 ∧ 0 ≤ a ∧ a ≤ 8 * s.size)) :
    Calls Try.prog 41 #[.agg #[.string s, .int .i64 a]] w fun e w' => e = .panicked [{ v := .iface 84 (.agg #[]), recovered := false }] ∧ Below w.heap.size w w' := by
  unfold maxLen at hs
  by_cases h1 : (12000 : Int) < s.size
  · clear h
    go_enter Try.func41, Try.ntmps41
    go_wp2
    exact ⟨rfl, rfl, bstart _ _⟩
  · have d1 : decide ((12000 : Int) < s.size) = false := by simpa using h1
    by_cases h2 : a < 0
    · clear h
      go_enter Try.func41, Try.ntmps41
      go_wp2
      exact ⟨rfl, rfl, bstart _ _⟩
    · have d2 : decide (a < 0) = false := by simpa using h2
      have d3 : 8 * (s.size : Int) < a := by omega
      clear h
      go_enter Try.func41, Try.ntmps41
      go_wp2
      exact ⟨rfl, rfl, bstart _ _⟩

set_option maxHeartbeats 400000 in
theorem readerBits (s : ByteArray) (a : Int) (b : Nat) (w : World) (hR : Rd w b s a) :
    Calls Try.prog 43 #[.pointer (some ⟨b, 0, none⟩)] w fun e w' => e = .returned (.agg #[.string s, .int .i64 a]) ∧ Below w.heap.size w w' := by
  have c0 := hR.c0
  have c1 := hR.c1
  have hb := hR.lt
  have f0 := hR.f
  clear hR
  go_enter Try.func43, Try.ntmps43
  go_wp2
  go_region
  all_goals
    go_wp2
    exact bodyPost_ret (v := .agg #[.string s, .int .i64 a]) (by simp [results, Try.results43, go_sem]) rfl ⟨rfl, (bstart _ _).drew⟩

set_option maxHeartbeats 400000 in
theorem readerPass (s : ByteArray) (a : Int) (b : Nat) (w : World) (hR : Rd w b s a) (h1 : 0 ≤ a) (h2 : a ≤ 96000) :
    Calls Try.prog 51 #[.pointer (some ⟨b, 0, none⟩)] w fun e w' => e = .returned (.tuple #[]) ∧ w' = w.setCell ⟨b, 1, none⟩ (.int .i64 (8 * ((a + 7) / 8))) := by
  have c0 := hR.c0
  have c1 := hR.c1
  have hb := hR.lt
  have f0 := hR.f
  clear hR
  go_enter Try.func51, Try.ntmps51
  go_wp2_with (go_at_call 39; refine (bytesFor_any _ _ ?_ ?_).mono ?_; omega; omega; rintro e w' ⟨rfl, rfl⟩)
  go_end0
  exact ⟨rfl, rfl⟩

theorem readerPass_at (s : ByteArray) (a : Int) (b : Nat) (w : World) (hR : Rd w b s a) (h1 : 0 ≤ a) (h2 : a ≤ 96000) :
    Calls Try.prog 51 #[.pointer (some ⟨b, 0, none⟩)] w fun e w' => e = .returned (.tuple #[]) ∧ Rd w' b s (8 * ((a + 7) / 8)) ∧ Below b w w' := by
  refine (readerPass s a b w hR h1 h2).mono ?_
  rintro e w1 ⟨rfl, rfl⟩
  exact ⟨rfl, hR.set _, Below.setCell (p := ⟨b, 1, none⟩) (Below.refl b _) (Nat.le_refl b) _⟩

theorem catchNext_panic (u : TypeId) (pv : Value) (older : List PanicEntry) (w : World) :
    CallsD Try.prog 50 #[] (.panicking ({ v := .iface u pv, recovered := false } :: older)) w fun e u' w' =>
      e = .returned (.tuple #[]) ∧ u' = .panicking ({ v := .iface u pv, recovered := true } :: older) ∧ w' = w := by
  refine callsD_of_wpS Try.func50 rfl fun c₀ cs hu => ?_
  apply wpS_region
  simp [wpOpsS, go_sem, recoverD, hu, Try.ntmps50, bodyPostS, results, Try.results50]

theorem catchNext_idle (w : World) :
    CallsD Try.prog 50 #[] .returning w fun e u' w' => e = .returned (.tuple #[]) ∧ u' = .returning ∧ w' = w := by
  refine callsD_of_wpS Try.func50 rfl fun c₀ cs hu => ?_
  apply wpS_region
  simp [wpOpsS, go_sem, recoverD, hu, Try.ntmps50]
  cases c₀
  simp_all [bodyPostS, results, Try.results50]

theorem catchTake_panic (u : TypeId) (pv : Value) (older : List PanicEntry) (w : World) :
    CallsD Try.prog 40 #[] (.panicking ({ v := .iface u pv, recovered := false } :: older)) w fun e u' w' =>
      e = .returned (.tuple #[]) ∧ u' = .panicking ({ v := .iface u pv, recovered := true } :: older) ∧ w' = w := by
  refine callsD_of_wpS Try.func40 rfl fun c₀ cs hu => ?_
  apply wpS_region
  simp [wpOpsS, go_sem, recoverD, hu, Try.ntmps40, bodyPostS, results, Try.results40]

theorem catchTake_idle (w : World) :
    CallsD Try.prog 40 #[] .returning w fun e u' w' => e = .returned (.tuple #[]) ∧ u' = .returning ∧ w' = w := by
  refine callsD_of_wpS Try.func40 rfl fun c₀ cs hu => ?_
  apply wpS_region
  simp [wpOpsS, go_sem, recoverD, hu, Try.ntmps40]
  cases c₀
  simp_all [bodyPostS, results, Try.results40]

set_option maxHeartbeats 400000 in
theorem implNext_no (s : ByteArray) (a : Int) (w : World) (hs : s.size ≤ maxLen) (h : ¬ (s.size ≤ 12000 ∧ 0 ≤ a ∧ a ≤ 8 * s.size)) :
    Calls Try.prog 27 #[.agg #[.string s, .int .i64 a]] w fun e w' => e = .returned (.tuple #[.agg #[.string ⟨#[]⟩, .int .i64 0], .bool false]) ∧ Below w.heap.size w w' := by
  have H : Hid (¬ (s.size ≤ 12000 ∧ 0 ≤ a ∧ a ≤ 8 * s.size)) := h
  clear h
  go_enter_defers Try.func27, Try.ntmps27
  go_wp2_with fail
  refine (newReader_no s a _ hs H.out).mono ?_
  rintro e w1 ⟨rfl, hb1⟩
  obtain ⟨k1, f1⟩ := bcell hb1
  have hz : w.heap.size + 1 < w1.heap.size := by have := hb1.size; simp at this; omega
  have hB : Below w.heap.size w w1 := bnext (bal (bstart _ _) _) hb1
  go_wp2_with fail
  refine leaves_cons (f := 50) (args := #[]) (by simp) (by simp [go_sem]) ?_
  refine (catchNext_panic _ _ [] _).mono ?_
  rintro e u' w'' ⟨rfl, rfl, rfl⟩
  simp [Leaves, settle, results, Try.results27, go_sem, k1, hB]

set_option maxHeartbeats 400000 in
theorem implNext_yes (s : ByteArray) (a : Int) (w : World) (h1 : s.size ≤ 12000) (h2 : 0 ≤ a) (h3 : a ≤ 8 * s.size) :
    Calls Try.prog 27 #[.agg #[.string s, .int .i64 a]] w fun e w' => e = .returned (.tuple #[.agg #[.string s, .int .i64 (8 * ((a + 7) / 8))], .bool true]) ∧ Below w.heap.size w w' := by
  go_enter_defers Try.func27, Try.ntmps27
  go_wp2_with fail
  refine (newReader_at s a _ h1 h2 h3).mono ?_
  rintro e w1 ⟨b, rfl, hlb, hR, hb1⟩
  go_wp2_with fail
  refine (readerPass_at s a b _ hR (by omega) (by omega)).mono ?_
  rintro e w2 ⟨rfl, hR2, hb2⟩
  have hb12 := hb1.trans (hb2.mono hlb)
  go_wp2_with fail
  refine (readerBits s _ b _ hR2).mono ?_
  rintro e w3 ⟨rfl, hb3⟩
  have hb13 := bnext hb12 hb3
  obtain ⟨k1, f1⟩ := bcell hb13
  have hz : w.heap.size + 1 < w3.heap.size := by have := hb13.size; simp at this; omega
  have hB : Below w.heap.size w w3 := bnext (bal (bstart _ _) _) hb13
  go_wp2_with fail
  refine leaves_cons (f := 50) (args := #[]) (by simp) (by simp [go_sem]) ?_
  refine (catchNext_idle _).mono ?_
  rintro e u' w'' ⟨rfl, rfl, rfl⟩
  simp [Leaves, settle, results, Try.results27, go_sem, k1]
  exact (hB.setCell (by simp) _).setCell (by simp) _
end Go.Proofs.Ytdjpjdjljobalaa
