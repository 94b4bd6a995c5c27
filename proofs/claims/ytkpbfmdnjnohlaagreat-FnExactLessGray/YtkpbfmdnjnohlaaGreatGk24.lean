/-
  Texts of the proof, put together.
-/
import Derived.Test.YtkpbfmdnjnohlaaGreatGk02
namespace Go.Proofs.YtkpbfmdnjnohlaaGreat
namespace FiltMath
open TakeMath
def least (f:Nat→Int):Nat→Nat
 | 0=>0
 | n+1=>if f (n+1) < f (least f n) then n+1 else least f n
end FiltMath
end Go.Proofs.YtkpbfmdnjnohlaaGreat
