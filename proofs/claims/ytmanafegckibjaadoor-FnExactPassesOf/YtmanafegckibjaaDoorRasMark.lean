/-
  The walks of what the exact laws do with rasters that were handed back: marked, held.
-/
import Derived.Test.YtmanafegckibjaaDoorRows
import Derived.Test.YtmanafegckibjaaDoorBase
import Derived.Test.YtmanafegckibjaaDoorOwnLib
import Derived.Test.YtmanafegckibjaaDoorIntsLib
import Derived.Test.YtmanafegckibjaaDoorIntsWalks
import Derived.Test.YtmanafegckibjaaDoorMarkWalks
import Derived.Test.YtmanafegckibjaaDoorRasList
import Derived.Test.YtmanafegckibjaaDoorRasListWalks
import Derived.WalkKit
import Derived.ProofKit
import Derived.WalkLawsBesides
import Derived.Below
import Derived.Lib.SmallJoins
namespace Go.Proofs.YtmanafegckibjaaDoor
open Go.RowKit Go.Joins

theorem grown_of_alloc {w w' : World} {o : Obj} {row : Option Nat} (h : (w.alloc o).grownBy w' row) : w.grownBy w' row :=
  ⟨h.os, h.tape, h.output, Nat.le_trans (by simp) h.size, fun k hk hne => (h.block k (by simp; omega) hne).trans (Below.heap_alloc w o k hk)⟩
theorem markRaster_own (x0 x1 x2 x3 : Int) (base g n cap : Nat) (f : Nat → Int) (k : Int) (w : World) (hO : IOwn w base g n cap f) (hn : n ≤ 1048576) (h0 : 0 ≤ k) (h1 : k ≤ 1073741824) :
    Calls Tryd.prog 22 #[.agg #[.int .i64 x0, .int .i64 x1, .int .i64 x2, .int .i64 x3, .slice (some ⟨g, 0, none⟩) n cap], .int .i64 k] w fun e w' => e = .returned (.int .i64 (k + n)) ∧ w.grownBy w' (some g) := by
  have HO := hid_of hO
  clear hO
  go_enter Tryd.func22, Tryd.ntmps22
  go_wp2_with fail
  refine (markIntS_own base g n cap f k _ (HO.out.alloc _) hn h0 h1).mono ?_
  rintro e w2 ⟨rfl, _, hg⟩
  have HG := hid_of (grown_of_alloc hg)
  clear hg
  go_wp2_with fail
  go_ret
  exact ⟨rfl, HG.out⟩
theorem markRaster_mine (x0 x1 x2 x3 : Int) (base g n cap : Nat) (f : Nat → Int) (k : Int) (w : World) (hO : IOwn w base g n cap f) (hn : n ≤ 1048576) (h0 : 0 ≤ k) (h1 : k ≤ 1073741824) :
    Calls Tryd.prog 22 #[.agg #[.int .i64 x0, .int .i64 x1, .int .i64 x2, .int .i64 x3, .slice (some ⟨g, 0, none⟩) n cap], .int .i64 k] w fun e w' => e = .returned (.int .i64 (k + n)) ∧ IOwn w' base g n cap (fun j => k + j) ∧ w.grownBy w' (some g) := by
  have HO := hid_of hO
  clear hO
  go_enter Tryd.func22, Tryd.ntmps22
  go_wp2_with fail
  refine (markIntS_own base g n cap f k _ (HO.out.alloc _) hn h0 h1).mono ?_
  rintro e w2 ⟨rfl, hO2, hg⟩
  have HG := hid_of (And.intro hO2 (grown_of_alloc hg))
  clear hg hO2
  go_wp2_with fail
  go_ret
  exact ⟨rfl, HG.out⟩
theorem markRaster_none (x0 x1 x2 x3 : Int) (a : Option Addr) (cap : Nat) (k : Int) (w : World) :
    Calls Tryd.prog 22 #[.agg #[.int .i64 x0, .int .i64 x1, .int .i64 x2, .int .i64 x3, .slice a 0 cap], .int .i64 k] w fun e w' => e = .returned (.int .i64 k) ∧ Below w.heap.size w w' := by
  go_enter Tryd.func22, Tryd.ntmps22
  go_wp2_with fail
  refine (markIntS_none a cap k _).mono ?_
  rintro e w2 ⟨rfl, rfl⟩
  go_wp2_with fail
  go_ret
  exact ⟨rfl, bstart _ _⟩
theorem markRaster_sl (x0 x1 x2 x3 : Int) (base : Nat) (a : Option Addr) (n cap : Nat) (f : Nat → Int) (k : Int) (w : World) (hS : SL w base a n cap f) (hn : n ≤ 1048576) (h0 : 0 ≤ k) (h1 : k ≤ 1073741824) :
    Calls Tryd.prog 22 #[.agg #[.int .i64 x0, .int .i64 x1, .int .i64 x2, .int .i64 x3, .slice a n cap], .int .i64 k] w fun e w' => e = .returned (.int .i64 (k + n)) ∧ SL w' base a n cap (fun j => k + j) ∧ ∃ row, (∀ g, row = some g → 0 < n ∧ a = some ⟨g, 0, none⟩ ∧ base ≤ g) ∧ w.grownBy w' row := by
  rcases Nat.eq_zero_or_pos n with e0 | e0
  · subst e0
    refine (markRaster_none x0 x1 x2 x3 a cap k w).mono ?_
    rintro e w1 ⟨rfl, hB⟩
    exact ⟨by simp, .inl rfl, none, (fun g hg => by cases hg), ⟨hB.os, hB.tape, hB.output, hB.size, fun b hb _ => hB.block b hb⟩⟩
  · rcases hS with h | ⟨g, rfl, h⟩
    · omega
    · refine (markRaster_mine x0 x1 x2 x3 base g n cap f k w h hn h0 h1).mono ?_
      rintro e w1 ⟨rfl, hO, hg⟩
      exact ⟨rfl, .inr ⟨g, rfl, hO⟩, some g, (fun g' hg' => by cases hg'; exact ⟨e0, rfl, h.base_le⟩), hg⟩
theorem heldRaster_same (x0 x1 x2 x3 : Int) (a : Option Addr) (n cap : Nat) (k : Int) (w : World) (hC : Came w a n (fun j => k + j)) (hn : n ≤ 1048576) (h0 : 0 ≤ k) (h1 : k ≤ 1073741824) :
    Calls Tryd.prog 28 #[.agg #[.int .i64 x0, .int .i64 x1, .int .i64 x2, .int .i64 x3, .slice a n cap], .int .i64 k] w fun e w' => e = .returned (.int .i64 (k + n)) ∧ Below w.heap.size w w' := by
  have HC := hid_of hC
  have dk : decide (k + (n : Int) < 0) = false := decide_eq_false (by omega)
  clear hC
  go_enter Tryd.func28, Tryd.ntmps28
  go_wp2_with fail
  have HB := hid_of (bstart w (.cells #[.int .i64 x0, .int .i64 x1, .int .i64 x2, .int .i64 x3, .slice a n cap] 26))
  generalize w.alloc (.cells #[.int .i64 x0, .int .i64 x1, .int .i64 x2, .int .i64 x3, .slice a n cap] 26) = W1 at HB ⊢
  refine (heldIntS_same a n cap k W1 (HC.out.called HB.out) hn h0 h1).mono ?_
  rintro e w2 ⟨rfl, hB2⟩
  have HB2 := hid_of (bnext HB.out hB2)
  clear hB2
  go_wp2_with fail
  go_ret
  exact ⟨rfl, HB2.out⟩
theorem markRasterS_none (a : Option Addr) (c : Nat) (k : Int) (w : World) : Calls Tryd.prog 23 #[.slice a 0 c, .int .i64 k] w fun e w' => e = .returned (.int .i64 k) ∧ w' = w := by
  go_enter Tryd.func23, Tryd.ntmps23
  go_wp2_with fail
  go_loop [1, 5] (fun z i => i = .int .i64 0 ∧ z = .int .i64 k) (fun _ _ => 0)
  case atStart => exact ⟨rfl, rfl⟩
  case round =>
    obtain ⟨rfl, rfl⟩ := hrel
    go_wp2_with fail
    go_ret
    exact ⟨rfl, rfl⟩
theorem markRasterS_sl (base : Nat) (a : Option Addr) (m c : Nat) (R : Nat → Ras) (k : Int) (w : World) (hS : RSL w base a m R) (hm : m ≤ 1048576) (hn : ∀ j, j < m → (R j).n ≤ 1048576) (hK : ∀ j, j ≤ m → 0 ≤ markK R k j ∧ markK R k j ≤ 1000000000) :
    Calls Tryd.prog 23 #[.slice a m c, .int .i64 k] w fun e w' => e = .returned (.int .i64 (markK R k m)) ∧ RSL w' base a m (markR R k) ∧ Below base w w' := by
  rcases hS with rfl | ⟨g, rfl, h⟩
  · refine (markRasterS_none a c k w).mono ?_
    rintro e w1 ⟨rfl, rfl⟩
    exact ⟨rfl, .inl rfl, Below.refl _ _⟩
  · refine (markRasterS_own base g m c R k w h hm hn hK).mono ?_
    rintro e w1 ⟨rfl, hO, hB⟩
    exact ⟨rfl, .inr ⟨g, rfl, hO⟩, hB⟩
/-- An old list behind what turned one newer block. -/
theorem RCame.other {w0 w w' : World} {a : Option Addr} {m g : Nat} {R : Nat → Ras} (_ : RCame w a m R) (h0 : RCame w0 a m R) (hg : w.grownBy w' (some g)) (hb : Below w0.heap.size w0 w) (hn : w0.heap.size ≤ g) : RCame w' a m R :=
  h0.called ⟨hg.os.trans hb.os, hg.tape.trans hb.tape, hg.output.trans hb.output, Nat.le_trans hb.size hg.size, fun k hk => (hg.block k (Nat.lt_of_lt_of_le hk hb.size) (fun e => by have := Option.some.inj e; omega)).trans (hb.block k hk)⟩
/-- A list of one's own behind what turned an older block. -/
theorem RSL.other {w w' : World} {base : Nat} {a : Option Addr} {m g : Nat} {R : Nat → Ras} (h : RSL w base a m R) (hg : w.grownBy w' (some g)) (hn : g < base) : RSL w' base a m R := by
  rcases h with h | ⟨g1, rfl, A, G, C, h⟩
  · exact .inl h
  · exact .inr ⟨g1, rfl, A, G, C, h.keep (fun b hb hl => hg.block b hl (fun e => by have := Option.some.inj e; omega))⟩
end Go.Proofs.YtmanafegckibjaaDoor
