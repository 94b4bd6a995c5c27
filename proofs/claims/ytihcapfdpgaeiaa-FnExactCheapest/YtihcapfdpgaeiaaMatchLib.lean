/-
  What a matcher holds: the text, how many places are looked at, the map of the places, and how many stand ahead of each.
-/
import Derived.Test.YtihcapfdpgaeiaaRows
import Derived.Test.YtihcapfdpgaeiaaBase
import Derived.Test.YtihcapfdpgaeiaaIntsLib
import Derived.Test.YtihcapfdpgaeiaaTextLib
import Derived.Test.YtihcapfdpgaeiaaKeyLib
import Derived.Test.YtihcapfdpgaeiaaOccMath
import Derived.WalkKit
import Derived.Below
namespace Go.Proofs.Ytihcapfdpgaeiaa
open Go.RowKit SearchMath

/-- The cells of the matcher's struct. -/
def MtCells (w : World) (p : Nat) (s : ByteArray) (c : Nat) (M : Nat) (a : Option Addr) (n cap : Nat) : Prop :=
  w.cell? ⟨p, 0, none⟩ = some (.string s) ∧ w.cell? ⟨p, 1, none⟩ = some (.int .i64 (c : Int)) ∧ w.cell? ⟨p, 2, none⟩ = some (.map (some M)) ∧ w.cell? ⟨p, 3, none⟩ = some (.slice a n cap) ∧ p < w.heap.size
/-- The list that the map holds for the three bytes at i. -/
def MtList (w : World) (s : ByteArray) (v : Value) (i : Nat) : Prop := ∃ g cap, v = .slice (some ⟨g, 0, none⟩) (occAt (txt s) i (s.size - 2)).length cap ∧ (occAt (txt s) i (s.size - 2)).length ≤ cap ∧ g < w.heap.size ∧ ∀ j, j < (occAt (txt s) i (s.size - 2)).length → w.cell? ⟨g, j, none⟩ = some (.int .i64 ((occAt (txt s) i (s.size - 2)).getD j 0 : Nat))
/-- A matcher stands behind block p. -/
def Mt (w : World) (p : Nat) (s : ByteArray) (c : Nat) : Prop :=
  ∃ M a cap G, MtCells w p s c M a (s.size - 2) cap ∧ s.size - 2 ≤ cap ∧ Came w a (s.size - 2) (fun i => ((occAt (txt s) i i).length : Nat)) ∧ KM w M G ∧ ∀ i, i + 2 < s.size → MtList w s (G (txt s i) (txt s (i + 1)) (txt s (i + 2))) i
section
variable {w w' : World} {p : Nat} {s : ByteArray} {c : Nat}
theorem MtCells.called {M : Nat} {a : Option Addr} {n cap : Nat} (h : MtCells w p s c M a n cap) (hb : Below w.heap.size w w') : MtCells w' p s c M a n cap := by
  obtain ⟨h0, h1, h2, h3, h4⟩ := h
  exact ⟨(hb.cell (p := ⟨p, 0, none⟩) h4).trans h0, (hb.cell (p := ⟨p, 1, none⟩) h4).trans h1, (hb.cell (p := ⟨p, 2, none⟩) h4).trans h2, (hb.cell (p := ⟨p, 3, none⟩) h4).trans h3, Nat.lt_of_lt_of_le h4 hb.size⟩
theorem Mt.called (h : Mt w p s c) (hb : Below w.heap.size w w') : Mt w' p s c := by
  obtain ⟨M, a, cap, G, h1, h2, h3, h4, h5⟩ := h
  refine ⟨M, a, cap, G, h1.called hb, h2, h3.called hb, h4.called hb, fun i hi => ?_⟩
  obtain ⟨g, cp, e1, e2, e3, e4⟩ := h5 i hi
  exact ⟨g, cp, e1, e2, Nat.lt_of_lt_of_le e3 hb.size, fun j hj => (hb.cell (p := ⟨g, j, none⟩) e3).trans (e4 j hj)⟩
theorem Mt.text (h : Mt w p s c) : w.cell? ⟨p, 0, none⟩ = some (.string s) ∧ p < w.heap.size := by
  obtain ⟨M, a, cap, G, h1, _⟩ := h
  exact ⟨h1.1, h1.2.2.2.2⟩
end

end Go.Proofs.Ytihcapfdpgaeiaa
