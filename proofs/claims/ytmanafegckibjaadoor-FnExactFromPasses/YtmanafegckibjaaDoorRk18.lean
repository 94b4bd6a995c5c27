/-
  The document's model of FromPasses at every argument.
  What the program is to answer of passes.
-/
import Derived.Test.YtmanafegckibjaaDoorRows
import Derived.Test.YtmanafegckibjaaDoorRk01
import Derived.Test.YtmanafegckibjaaDoorRk02
import Derived.Test.YtmanafegckibjaaDoorRk08
import Derived.Test.YtmanafegckibjaaDoorRk10
import Derived.Test.YtmanafegckibjaaDoorRk03
import Derived.Test.YtmanafegckibjaaDoorRk11
import Derived.Test.YtmanafegckibjaaDoorRk12
import Derived.Test.YtmanafegckibjaaDoorRk17
import Derived.Test.YtmanafegckibjaaDoorRk13
import Derived.WalkKit
import Derived.Below
namespace Go.Proofs.YtmanafegckibjaaDoor
open Go.RowKit RastMath PassMath

theorem specFrom_any (W H : Int) (a : Option Addr) (m c : Nat) (R : Nat → Ras) (w : World) (hC : RCame w a m R) (hn : ∀ j, j < m → (R j).n ≤ 1048576) :
    Calls Tryd.prog 26 #[.int .i64 W, .int .i64 H, .slice a m c] w (FromPost W H m R w) := by
  by_cases hW : SideR W
  · by_cases hH : SideR H
    · by_cases hm : m = 7
      · subst hm
        by_cases hD : DepthR (R 0).x2 (R 0).x3
        · have c1 := chan_pos hD
          have c2 := chan_range (R 0).x2
          unfold SideR at hW hH
          obtain ⟨x, rfl⟩ : ∃ x : Nat, W = (x : Int) := ⟨W.toNat, by omega⟩
          obtain ⟨y, rfl⟩ : ∃ y : Nat, H = (y : Int) := ⟨H.toNat, by omega⟩
          obtain ⟨z, hz⟩ : ∃ z : Nat, chan (R 0).x2 = (z : Int) := ⟨(chan (R 0).x2).toNat, by omega⟩
          exact specFrom_main x y z a c R w hC (by omega) (by omega) hD hz (by omega) hn
        · exact (specFrom_depth W H a c R w hC hW hH hD).mono fun _ _ ⟨q1, q2⟩ => ⟨.inr ⟨fun h => hD h.first.2.2.2, q1⟩, q2⟩
      · exact (specFrom_many W H a m c w hW hH hm).mono fun _ _ ⟨q1, q2⟩ => ⟨.inr ⟨fun h => hm h.first.2.2.1, q1⟩, q2⟩
    · exact (specFrom_side2 W H _ w hW hH).mono fun _ _ ⟨q1, q2⟩ => ⟨.inr ⟨fun h => hH h.first.2.1, q1⟩, q2⟩
  · exact (specFrom_side W H _ w hW).mono fun _ _ ⟨q1, q2⟩ => ⟨.inr ⟨fun h => hW h.first.1, q1⟩, q2⟩
theorem join_small {W H : Int} {m : Nat} {R : Nat → Ras} (h : FromR W H m R) : (joinR W H R).n ≤ 2304 := by
  obtain ⟨w, h, n, _, _, _, hW, hH, hN, hn, _⟩ := ras_parts h.2.1
  rw [hn]
  exact Nat.le_trans (Nat.mul_le_mul (Nat.mul_le_mul hW.2 hH.2) hN.2) (by omega)
end Go.Proofs.YtmanafegckibjaaDoor

namespace Go.Proofs.YtmanafegckibjaaDoor
open Go.RowKit RastMath PassMath

def PassStepAnswer : Prop := ∀ (p : Int) (w : World), (Lit.int .i64 p).wf = true → GridG w → Calls Tryd.prog 15 #[.int .i64 p] w fun e w' => e = .returned (.tuple #[.int .i64 (stepV px p), .int .i64 (stepV py p), .int .i64 (stepV pdx p), .int .i64 (stepV pdy p)]) ∧ Below w.heap.size w w'
def PassSizeAnswer : Prop := ∀ (W H p : Int) (w : World), (Lit.int .i64 W).wf = true → (Lit.int .i64 H).wf = true → (Lit.int .i64 p).wf = true → GridG w → Calls Tryd.prog 12 #[.int .i64 W, .int .i64 H, .int .i64 p] w fun e w' => e = .returned (.tuple #[.int .i64 (wideV W H p), .int .i64 (highV W H p)]) ∧ Below w.heap.size w w'
def PassesAnswer : Prop := ∀ (r : Ras) (a : Option Addr) (cap : Nat) (w : World), Came w a r.n r.f → r.n ≤ 1048576 → r.n ≤ cap → cap ≤ maxLen → GridG w →
  (RasOk r → Calls Tryd.prog 10 #[rasA r a cap] w fun e w' => ∃ a' c', e = .returned (.tuple #[.slice a' 7 c', .bool true]) ∧ RSL w' w.heap.size a' 7 (passesR r) ∧ Below w.heap.size w w') ∧
  (¬ RasOk r → Calls Tryd.prog 10 #[rasA r a cap] w fun e w' => ∃ a' c', e = .returned (.tuple #[.slice a' 0 c', .bool false]) ∧ Below w.heap.size w w')
/-- The raster and the list that it came of; a list of which none comes. -/
def FromAnswer : Prop := ∀ (W H : Int) (a : Option Addr) (m c : Nat) (R : Nat → Ras) (w : World), RCame w a m R → m ≤ 1048576 → (∀ j, j < m → (R j).n ≤ 1048576) → (Lit.int .i64 W).wf = true → (Lit.int .i64 H).wf = true → GridG w →
  (FromR W H m R → Calls Tryd.prog 11 #[.int .i64 W, .int .i64 H, .slice a m c] w fun e w' => ∃ a' c', e = .returned (.tuple #[rasA (joinR W H R) a' c', .bool true]) ∧ SL w' w.heap.size a' (joinR W H R).n c' (joinR W H R).f ∧ (joinR W H R).n ≤ c' ∧ c' ≤ maxLen ∧ Below w.heap.size w w') ∧
  (¬ FromR W H m R → Calls Tryd.prog 11 #[.int .i64 W, .int .i64 H, .slice a m c] w fun e w' => ∃ a' c', e = .returned (.tuple #[.agg #[.int .i64 0, .int .i64 0, .int .i64 0, .int .i64 0, .slice a' 0 c'], .bool false]) ∧ Below w.heap.size w w')
end Go.Proofs.YtmanafegckibjaaDoor
