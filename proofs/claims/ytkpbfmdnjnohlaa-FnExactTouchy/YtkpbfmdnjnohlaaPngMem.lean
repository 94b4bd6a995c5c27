/-
  A picture in memory: a value of thirteen cells, with four lists.
-/
import Derived.Test.YtkpbfmdnjnohlaaRows
import Derived.Test.YtkpbfmdnjnohlaaBase
import Derived.Test.YtkpbfmdnjnohlaaIntsLib
import Derived.Test.YtkpbfmdnjnohlaaRgbLib
import Derived.Test.YtkpbfmdnjnohlaaChkLib
import Derived.Test.YtkpbfmdnjnohlaaChkWalks
import Derived.Test.YtkpbfmdnjnohlaaRgbMark
import Derived.Test.YtkpbfmdnjnohlaaPngMath
import Derived.WalkKit
import Derived.ProofKit
import Derived.Below
import Derived.Lib.SmallJoins
namespace Go.Proofs.Ytkpbfmdnjnohlaa
open Go.RowKit Go.Joins HeadMath

/-- Where a picture's lists lie. -/
structure PicA where
  ta : Option Addr
  tc : Nat
  ca : Option Addr
  cc : Nat
  sa : Option Addr
  sc : Nat
  ka : Option Addr
  kc : Nat

def pngV (p : Pic) (q : PicA) : Value := .agg #[.int .i64 p.hw, .int .i64 p.hh, .int .i64 p.hd, .int .i64 p.hc, .bool p.lace, .slice q.ta p.tn q.tc, .slice q.ca p.cn q.cc, .int .i64 p.rw, .int .i64 p.rh, .int .i64 p.rc, .int .i64 p.rd, .slice q.sa p.sn q.sc, .slice q.ka p.kn q.kc]
/-- The lists are there. -/
structure PngIn (w : World) (p : Pic) (q : PicA) : Prop where
  t : RgbCame w q.ta p.tn p.T
  c : Came w q.ca p.cn p.C
  s : Came w q.sa p.sn p.S
  k : KCame w q.ka p.kn p.K
  capped : p.sn ≤ q.sc ∧ q.sc ≤ maxLen
theorem PngIn.called {w w' : World} {p : Pic} {q : PicA} (h : PngIn w p q) (hb : Below w.heap.size w w') : PngIn w' p q := ⟨h.t.called hb, h.c.called hb, h.s.called hb, h.k.called hb, h.capped⟩
/-- The lists are not too long. -/
structure PngSz (p : Pic) : Prop where
  t : p.tn ≤ 1048576
  c : p.cn ≤ 1048576
  s : p.sn ≤ 1048576
  k : p.kn ≤ 1048576
  m : ∀ i, i < p.kn → (p.K i).1.size ≤ 1048576 ∧ (p.K i).2.size ≤ 1048576
/-- A picture with lists of its own, from a block on. -/
structure PngOwn (w : World) (base : Nat) (p : Pic) (gt gc gs gk : Nat) : Prop where
  t : RgbOwn w base gt p.tn p.T
  c : IOwn w base gc p.cn p.cn p.C
  s : IOwn w base gs p.sn p.sn p.S
  k : KOwn w base gk p.kn p.K
  ne : gt < gc ∧ gc < gs ∧ gs < gk
/-- Where the lists of a copy lie. -/
def picA (p : Pic) (gt gc gs gk : Nat) : PicA := ⟨some ⟨gt, 0, none⟩, p.tn, some ⟨gc, 0, none⟩, p.cn, some ⟨gs, 0, none⟩, p.sn, some ⟨gk, 0, none⟩, p.kn⟩
theorem PngOwn.called {w w' : World} {base : Nat} {p : Pic} {gt gc gs gk : Nat} (h : PngOwn w base p gt gc gs gk) (hb : Below w.heap.size w w') : PngOwn w' base p gt gc gs gk := ⟨h.t.called hb, h.c.called hb, h.s.called hb, h.k.called hb, h.ne⟩
theorem PngOwn.lie {w : World} {base : Nat} {p : Pic} {gt gc gs gk : Nat} (h : PngOwn w base p gt gc gs gk) (hz : PngSz p) : PngIn w p (picA p gt gc gs gk) := ⟨h.t.came, h.c.sl.came, h.s.sl.came, h.k.came, Nat.le_refl _, by have := hz.s; show p.sn ≤ maxLen; unfold maxLen; omega⟩
end Go.Proofs.Ytkpbfmdnjnohlaa
