/-
  What the program's search for repeats is to answer, and the ways that it makes of texts.
-/
import Derived.Test.YtihcapfdpgaeiaaRows
import Derived.Test.YtihcapfdpgaeiaaBase
import Derived.Test.YtihcapfdpgaeiaaTokMath
import Derived.Test.YtihcapfdpgaeiaaTriLib
import Derived.Test.YtihcapfdpgaeiaaTokMark
import Derived.Test.YtihcapfdpgaeiaaSearchMath
import Derived.Test.YtihcapfdpgaeiaaCheapMath
import Derived.Test.YtihcapfdpgaeiaaTextLib
import Derived.WalkKit
import Derived.Below
namespace Go.Proofs.Ytihcapfdpgaeiaa
open Go.RowKit TokMath SearchMath CheapMath

/-- What is asked of BestMatch. -/
def bestOf (s : ByteArray) (t c : Int) : Nat × Nat := if s.size ≤ 2600 ∧ (0 ≤ t ∧ t < (s.size : Int)) ∧ (1 ≤ c ∧ c ≤ 64) then bestM (txt s) s.size t.toNat c.toNat else (0, 0)
def BestAnswer : Prop := ∀ (s : ByteArray) (t c : Int) (w : World), s.size ≤ 1048576 → (Lit.int .i64 t).wf = true → (Lit.int .i64 c).wf = true →
    Calls Try.prog 17 #[.string s, .int .i64 t, .int .i64 c] w fun e w' => e = .returned (.tuple #[.int .i64 ((bestOf s t c).1 : Nat), .int .i64 ((bestOf s t c).2 : Nat)]) ∧ Below w.heap.size w w'
/-- A text and a chain that are right. -/
def WayRight (s : ByteArray) (c : Int) : Prop := s.size ≤ 2600 ∧ 1 ≤ c ∧ c ≤ 64
def greedyL (s : ByteArray) (c : Int) : List Tok := wayL (greedyC (txt s) s.size c.toNat) s.size 0
def lazyL (s : ByteArray) (c : Int) : List Tok := wayL (lazyC (txt s) s.size c.toNat) s.size 0
def cheapL (s : ByteArray) (c : Int) : List Tok := wayL (takeAt (txt s) s.size c.toNat) s.size 0
/-- A way is handed back. -/
def WayPost (L : List Tok) (w : World) (e : Ending) (w' : World) : Prop := ∃ (a : Option Addr) (cap : Nat), e = .returned (.tuple #[.slice a L.length cap, .bool true]) ∧ TSL w' w.heap.size a L.length (fun j => L.getD j (0, 0, 0)) ∧ L.length ≤ cap ∧ Below w.heap.size w w'
/-- None is. -/
def WayNone (w : World) (e : Ending) (w' : World) : Prop := ∃ (a : Option Addr) (cap : Nat), e = .returned (.tuple #[.slice a 0 cap, .bool false]) ∧ (∀ g off, a = some ⟨g, off, none⟩ → g < w'.heap.size) ∧ Below w.heap.size w w'
/-- What a function on ways answers. -/
def WayAnswer (F : Nat) (way : ByteArray → Int → List Tok) : Prop := ∀ (s : ByteArray) (c : Int) (w : World), s.size ≤ 1048576 → (Lit.int .i64 c).wf = true →
    (WayRight s c → Calls Try.prog F #[.string s, .int .i64 c] w (WayPost (way s c) w)) ∧ (¬ WayRight s c → Calls Try.prog F #[.string s, .int .i64 c] w (WayNone w))
def GreedyAnswer : Prop := WayAnswer 12 greedyL
def LazyAnswer : Prop := WayAnswer 13 lazyL
def CheapAnswer : Prop := WayAnswer 14 cheapL
theorem greedyL_length (s : ByteArray) (c : Int) : (greedyL s c).length ≤ s.size := by
  have := way_length (c := greedyC (txt s) s.size c.toNat) (N := s.size) (fun i hi => (fine_size (greedy_fine _ _ _ i) hi).1) s.size 0 rfl
  exact this
theorem lazyL_length (s : ByteArray) (c : Int) : (lazyL s c).length ≤ s.size := by
  have := way_length (c := lazyC (txt s) s.size c.toNat) (N := s.size) (fun i hi => (fine_size (lazy_fine _ _ _ i) hi).1) s.size 0 rfl
  exact this
theorem cheapL_length (s : ByteArray) (c : Int) : (cheapL s c).length ≤ s.size := by
  have := way_length (c := takeAt (txt s) s.size c.toNat) (N := s.size) (fun i hi => (fine_size (take_fine hi) hi).1) s.size 0 rfl
  exact this

end Go.Proofs.Ytihcapfdpgaeiaa
