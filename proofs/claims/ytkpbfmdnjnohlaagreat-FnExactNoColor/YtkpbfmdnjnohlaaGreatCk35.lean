/-
  Texts of the proof, put together.
-/
import Derived.Test.YtkpbfmdnjnohlaaGreatCk34
namespace Go.Proofs.YtkpbfmdnjnohlaaGreat
open Go.RowKit Go.Joins Go.Shelf
attribute [local go_sem] Oper.semAt_some
theorem own_ne {V V':World} {row:Option Nat} {B:Nat} (hg:V.grownBy V' row) (hr:∀ r,row=some r→B≤r∧∃ ob:Obj,V.heap[r]?=some ob∧ob.isCells=false) (b:Nat) (cs:Array Value) (t:TypeId) (fz:Nat×Nat) (hb:V.heap[b]?=some (.cells cs t fz)):V'.heap[b]?=V.heap[b]?:=hg.block b (block_lt hb) (fun e=>by
  obtain⟨_,ob,h6,h7⟩:=hr b e.symm
  rw[hb] at h6
  cases h6
  cases h7)
end Go.Proofs.YtkpbfmdnjnohlaaGreat
