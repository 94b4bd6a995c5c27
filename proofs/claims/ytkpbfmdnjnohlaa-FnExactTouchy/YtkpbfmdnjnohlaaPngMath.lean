/-
  Right pictures, in plain numbers. Nothing here speaks of the program.
-/
import Derived.Test.YtkpbfmdnjnohlaaHeadMath
import Derived.Test.YtkpbfmdnjnohlaaRastMath
import Derived.Test.YtkpbfmdnjnohlaaRasterMath
import Derived.Test.YtkpbfmdnjnohlaaClearMath
import Derived.Test.YtkpbfmdnjnohlaaChunkMath
import Derived.Test.YtkpbfmdnjnohlaaCrcMath
import Derived.WalkKit
namespace Go.Proofs.Ytkpbfmdnjnohlaa
open Go.RowKit OutMath PutMath BigTextMath RastMath HeadMath ChunkMath CrcMath
open scoped Classical

/-- A picture: its head, its table, what is clear, its raster, and what is kept. -/
structure Pic where
  hw : Int
  hh : Int
  hd : Int
  hc : Int
  lace : Bool
  tn : Nat
  T : Nat → Rgb3
  cn : Nat
  C : Nat → Int
  rw : Int
  rh : Int
  rc : Int
  rd : Int
  sn : Nat
  S : Nat → Int
  kn : Nat
  K : Nat → Chk

def clearN : ByteArray := ⟨#[116, 82, 78, 83]⟩
/-- May it be kept? -/
def KeepR (c : Chk) : Prop := (NameR c.1 ∧ 97 ≤ byteAt c.1 0) ∧ ¬ c.1 = clearN ∧ c.2.size ≤ 2600
def KeptR (n : Nat) (K : Nat → Chk) : Prop := n ≤ 32 ∧ ∀ i, i < n → KeepR (K i)
/-- Does the table fit? -/
def FitsR (c d : Int) (n : Nat) (T : Nat → Rgb3) : Prop := if c = 3 then TableR T n ∧ (n : Int) ≤ p2 d.toNat else n = 0
def ClrR (d c : Int) (tn cn : Nat) (C : Nat → Int) : Prop := cn = 0 ∨ ClearR d c (tn : Int) cn C
def InR (c : Int) (tn sn : Nat) (S : Nat → Int) : Prop := c = 3 → ∀ i, i < sn → S i < (tn : Int)
/-- Is the picture right? -/
def PngR (p : Pic) : Prop := (HeadR p.hw p.hh p.hd p.hc ∧ RasR p.rw p.rh p.rc p.rd p.sn p.S ∧ p.rw = p.hw ∧ p.rh = p.hh ∧ p.rc = p.hc ∧ p.rd = p.hd) ∧ FitsR p.hc p.hd p.tn p.T ∧ ClrR p.hd p.hc p.tn p.cn p.C ∧ InR p.hc p.tn p.sn p.S ∧ KeptR p.kn p.K
end Go.Proofs.Ytkpbfmdnjnohlaa
