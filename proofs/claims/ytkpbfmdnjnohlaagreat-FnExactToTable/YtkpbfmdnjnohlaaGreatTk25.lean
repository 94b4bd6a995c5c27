/-
  Texts of the proof, put together.
-/
import Derived.Test.YtkpbfmdnjnohlaaGreatTk01
namespace Go.Proofs.YtkpbfmdnjnohlaaGreat
namespace FiltMath
open TakeMath
def siz (x:Int):Int:=if x < 0 then -x else x
def paeth (a b c:Int):Int:=
 if siz (a+b - c - a)≤siz (a+b - c - b)∧siz (a+b - c - a)≤siz (a+b - c - c) then a else if siz (a+b - c - b)≤siz (a+b - c - c) then b else c
def told (k a b c:Int):Int:=if k=1 then a else if k=2 then b else if k=3 then (a+b) / 2 else if k=4 then paeth a b c else 0
def least (f:Nat→Int):Nat→Nat
 | 0=>0
 | n+1=>if f (n+1) < f (least f n) then n+1 else least f n
end FiltMath
end Go.Proofs.YtkpbfmdnjnohlaaGreat
