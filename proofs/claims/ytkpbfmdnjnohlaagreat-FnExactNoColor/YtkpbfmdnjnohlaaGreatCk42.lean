/-
  Texts of the proof, put together.
-/
import Derived.Test.YtkpbfmdnjnohlaaGreatCk36
namespace Go.Proofs.YtkpbfmdnjnohlaaGreat
open Go.RowKit
def grL (n:Nat) (f:Nat→Int):Nat→List Int
 | 0=>[]
 | i+1=>if i % n=0∨i % n=3 then grL n f i ++ [f i] else grL n f i
theorem grL_succ (n:Nat) (f:Nat→Int) (i:Nat):grL n f (i+1)=if i % n=0∨i % n=3 then grL n f i ++ [f i] else grL n f i:=rfl
theorem grL_length (n:Nat) (f:Nat→Int) (i:Nat):(grL n f i).length≤i:=by
 induction i with
 | zero=>simp [grL]
 | succ i ih=>
  rw[grL_succ]
  split
  ·simp; omega
  ·omega
theorem grL_3 (f:Nat→Int) (N:Nat) (h:∀ k,k < N→GryR 3 f k):grL 3 f (3 * N)=(List.range N).map (tkF 3 2 1 f):=by
 induction N with
 | zero=>rfl
 | succ k ih=>
  have hk:=h k (by omega)
  have e:=tkF_at 3 2 1 f k 0 (by omega)
  rw[Nat.one_mul,Nat.add_zero,Nat.add_zero] at e
  rw[show 3 * (k+1)=3 * k+1+1+1 by omega,grL_succ,if_neg (by omega),grL_succ,if_neg (by omega),grL_succ,if_pos (by omega),ih fun j hj=>h j (by omega),List.range_succ,List.map_append]
  simp only [List.map_cons,List.map_nil]
  rw[e,← hk.2,← hk.1]
theorem grL_4 (f:Nat→Int) (N:Nat) (h:∀ k,k < N→GryR 4 f k):grL 4 f (4 * N)=(List.range (2 * N)).map (tkF 4 2 2 f):=by
 induction N with
 | zero=>rfl
 | succ k ih=>
  have hk:=h k (by omega)
  have e:=tkF_at 4 2 2 f k 0 (by omega)
  have e':=tkF_at 4 2 2 f k 1 (by omega)
  rw[Nat.add_zero,Nat.add_zero] at e
  rw[show 4 * (k+1)=4 * k+1+1+1+1 by omega,grL_succ,if_pos (by omega),grL_succ,if_neg (by omega),grL_succ,if_neg (by omega),grL_succ,if_pos (by omega),ih fun j hj=>h j (by omega),show 2 * (k+1)=2 * k+1+1 by omega,List.range_succ,List.range_succ,List.map_append,List.map_append]
  simp only [List.map_cons,List.map_nil]
  rw[e,e',← hk.2,← hk.1]
end Go.Proofs.YtkpbfmdnjnohlaaGreat
