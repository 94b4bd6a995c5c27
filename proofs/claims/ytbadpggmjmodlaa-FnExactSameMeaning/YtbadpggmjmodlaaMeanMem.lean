/-
  What a picture means, in memory: a value of four cells, with two lists.
-/
import Derived.Test.YtbadpggmjmodlaaRows
import Derived.Test.YtbadpggmjmodlaaBase
import Derived.Test.YtbadpggmjmodlaaIntsLib
import Derived.Test.YtbadpggmjmodlaaChkLib
import Derived.Test.YtbadpggmjmodlaaChkWalks
import Derived.Test.YtbadpggmjmodlaaChunkMath
import Derived.WalkKit
import Derived.ProofKit
import Derived.Below
import Derived.Lib.SmallJoins
namespace Go.Proofs.Ytbadpggmjmodlaa
open Go.RowKit Go.Joins ChunkMath

structure Mea where
  mw : Int
  mh : Int
  pn : Nat
  P : Nat → Int
  kn : Nat
  K : Nat → Chk
structure MeaA where
  pa : Option Addr
  pc : Nat
  ka : Option Addr
  kc : Nat
def meanV (m : Mea) (q : MeaA) : Value := .agg #[.int .i64 m.mw, .int .i64 m.mh, .slice q.pa m.pn q.pc, .slice q.ka m.kn q.kc]
structure MeanIn (w : World) (m : Mea) (q : MeaA) : Prop where
  p : Came w q.pa m.pn m.P
  k : KCame w q.ka m.kn m.K
theorem MeanIn.called {w w' : World} {m : Mea} {q : MeaA} (h : MeanIn w m q) (hb : Below w.heap.size w w') : MeanIn w' m q := ⟨h.p.called hb, h.k.called hb⟩
structure MeanSz (m : Mea) : Prop where
  p : m.pn ≤ 1048576
  k : m.kn ≤ 1048576
  m : ∀ i, i < m.kn → (m.K i).1.size ≤ 1048576 ∧ (m.K i).2.size ≤ 1048576
structure MeanOwn (w : World) (base : Nat) (m : Mea) (gp gk : Nat) : Prop where
  p : IOwn w base gp m.pn m.pn m.P
  k : KOwn w base gk m.kn m.K
  ne : gp < gk
def meaA (m : Mea) (gp gk : Nat) : MeaA := ⟨some ⟨gp, 0, none⟩, m.pn, some ⟨gk, 0, none⟩, m.kn⟩
theorem MeanOwn.called {w w' : World} {base : Nat} {m : Mea} {gp gk : Nat} (h : MeanOwn w base m gp gk) (hb : Below w.heap.size w w') : MeanOwn w' base m gp gk := ⟨h.p.called hb, h.k.called hb, h.ne⟩
theorem MeanOwn.lie {w : World} {base : Nat} {m : Mea} {gp gk : Nat} (h : MeanOwn w base m gp gk) : MeanIn w m (meaA m gp gk) := ⟨h.p.sl.came, h.k.came⟩
/-- Are two lists the same? -/
def LikeI (n m : Nat) (f g : Nat → Int) : Prop := n = m ∧ ∀ i, i < n → f i = g i
def LikeK (n m : Nat) (f g : Nat → Chk) : Prop := n = m ∧ ∀ i, i < n → f i = g i
def LikeM (a b : Mea) : Prop := (a.mw = b.mw ∧ a.mh = b.mh) ∧ LikeI a.pn b.pn a.P b.P ∧ LikeK a.kn b.kn a.K b.K
/-- What is answered of two lists. -/
def LikePost (p : Prop) (w : World) (e : Ending) (w' : World) : Prop := ∃ b, e = .returned (.bool b) ∧ (b = true ↔ p) ∧ Below w.heap.size w w'
theorem like_no {p : Prop} {w w' : World} (h : ¬ p) (hb : Below w.heap.size w w') : LikePost p w (.returned (.bool false)) w' := ⟨false, rfl, ⟨fun e => (by cases e), fun k => absurd k h⟩, hb⟩
theorem like_yes {p : Prop} {w w' : World} (h : p) (hb : Below w.heap.size w w') : LikePost p w (.returned (.bool true)) w' := ⟨true, rfl, ⟨fun _ => h, fun _ => rfl⟩, hb⟩
end Go.Proofs.Ytbadpggmjmodlaa
