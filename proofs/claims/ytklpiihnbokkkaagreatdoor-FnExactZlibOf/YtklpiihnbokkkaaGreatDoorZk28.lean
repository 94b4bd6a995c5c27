/-
  Texts of the proof, put together.
-/
import Derived.Test.YtklpiihnbokkkaaGreatDoorZk02
namespace Go.Proofs.YtklpiihnbokkkaaGreatDoor.RunsMath
theorem same_zero {f:Nat→Int} {n:Nat} {x:Int} {m i:Nat} (h:f i≠x):sameN f n x m i=0:=by
 cases m with
 | zero=>rfl
 | succ m=>
  unfold sameN
  rw[if_neg (fun q=>h q.2)]
theorem same_min (f:Nat→Int) (n:Nat) (x:Int):∀ m M i,m≤M→sameN f n x m i=min (sameN f n x M i) m
 | 0,M,i,_=>by simp [sameN]
 | m+1,0,i,h=>by omega
 | m+1,M+1,i,h=>by
  have e:=same_min f n x m M (i+1) (by omega)
  unfold sameN
  split
  ·omega
  ·omega
theorem same_full (f:Nat→Int) (n:Nat) (x:Int) (m i:Nat) (hi:i≤n):sameN f n x m i=min (sameN f n x n i) m:=by
 rcases Nat.le_total m n with h | h
 ·exact same_min f n x m n i h
 ·have h1:=same_min f n x n m i h
  have h2:=same_in f n x m i hi
  omega
theorem alike_pos {f:Nat→Int} {n i:Nat} (h:i < n):1≤sameN f n (f i) n i:=by
 cases n with
 | zero=>omega
 | succ n=>
  unfold sameN
  rw[if_pos ⟨h,rfl⟩]
  omega
theorem zeros_alike {f:Nat→Int} {n i:Nat} (h:i < n) (h0:f i=0):zerosAt f n i=min (sameN f n (f i) n i) 138:=by
 unfold zerosAt
 rw[same_full f n 0 138 i (by omega),h0]
theorem zeros_other {f:Nat→Int} {n i:Nat} (h0:f i≠0):zerosAt f n i=0:=same_zero h0
theorem sameAt_alike {f:Nat→Int} {n i:Nat} (h:i < n) (hi:0 < i) (h0:f (i - 1)=f i):sameAt f n i=min (sameN f n (f i) n i) 6:=by
 unfold sameAt
 rw[if_neg (by omega),same_full f n (f (i - 1)) 6 i (by omega),h0]
theorem sameAt_other {f:Nat→Int} {n i:Nat} (h0:f (i - 1)≠f i):sameAt f n i=0:=by
 unfold sameAt
 split
 ·rfl
 ·exact same_zero (fun e=>h0 e.symm)
theorem sameAt_first (f:Nat→Int) (n:Nat):sameAt f n 0=0:=rfl
section
variable {f:Nat→Int} {n i q:Nat}
theorem at_18 (h:i < n) (hq:q=sameN f n (f i) n i) (h0:f i=0) (h1:11≤q):runAt f n i=((18,((min q 138:Nat):Int) - 11),min q 138):=by
 have e:=zeros_alike h h0
 rw[← hq] at e
 unfold runAt
 rw[if_pos (by omega),e]
theorem at_17 (h:i < n) (hq:q=sameN f n (f i) n i) (h0:f i=0) (h1:¬ 11≤q) (h2:3≤q):runAt f n i=((17,(q:Int) - 3),q):=by
 have e:=zeros_alike h h0
 rw[← hq,Nat.min_eq_left (by omega)] at e
 unfold runAt
 rw[if_neg (by omega),if_pos (by omega),e]
theorem at_16 (h:i < n) (hq:q=sameN f n (f i) n i) (hi:0 < i) (h0:f i≠0) (he:f (i - 1)=f i) (h2:3≤q):runAt f n i=((16,((min q 6:Nat):Int) - 3),min q 6):=by
 have e:=zeros_other (n:=n) h0
 have e2:=sameAt_alike h hi he
 rw[← hq] at e2
 unfold runAt
 rw[if_neg (by omega),if_neg (by omega),if_pos (by omega),e2]
theorem at_x (h:i < n) (hq:q=sameN f n (f i) n i) (h1:f i=0→¬ 3≤q) (h2:¬ (0 < i∧f (i - 1)=f i∧3≤q)):runAt f n i=((f i,0),1):=by
 have ez:¬ 3≤zerosAt f n i:=by
  by_cases h0:f i=0
  ·have e:=zeros_alike h h0
   rw[← hq] at e
   have:=h1 h0
   omega
  ·rw[zeros_other h0]; omega
 have es:¬ 3≤sameAt f n i:=by
  by_cases hi:0 < i
  ·by_cases he:f (i - 1)=f i
   ·have e:=sameAt_alike h hi he
    rw[← hq] at e
    intro k
    exact h2 ⟨hi,he,by omega⟩
   ·rw[sameAt_other he]; omega
  ·obtain rfl:i=0:=by omega
   rw[sameAt_first]; omega
 unfold runAt
 rw[if_neg (by omega),if_neg ez,if_neg es]
end
end Go.Proofs.YtklpiihnbokkkaaGreatDoor.RunsMath
