/-
  Texts of the proof, put together.
-/
import Derived.Test.YtklpiihnbokkkaaGreatDoorFk03
namespace Go.Proofs.YtklpiihnbokkkaaGreatDoor.RunsMath
def sameN (f:Nat→Int) (n:Nat) (x:Int):Nat→Nat→Nat
 | 0,_=>0
 | m+1,i=>if i < n∧f i=x then 1+sameN f n x m (i+1) else 0
theorem same_le (f:Nat→Int) (n:Nat) (x:Int):∀ m i,sameN f n x m i≤m
 | 0,_=>Nat.le_refl _
 | m+1,i=>by
  have:=same_le f n x m (i+1)
  unfold sameN
  split <;> omega
theorem same_in (f:Nat→Int) (n:Nat) (x:Int):∀ m i,i≤n→i+sameN f n x m i≤n
 | 0,i,h=>h
 | m+1,i,h=>by
  unfold sameN
  split
  ·rename_i q
   have:=same_in f n x m (i+1) (by omega)
   omega
  ·omega
theorem same_all (f:Nat→Int) (n:Nat) (x:Int):∀ m i j,j < sameN f n x m i→f (i+j)=x
 | 0,_,j,h=>by simp [sameN] at h
 | m+1,i,j,h=>by
  unfold sameN at h
  split at h
  ·rename_i q
   cases j with
   | zero=>exact q.2
   | succ j=>
    have:=same_all f n x m (i+1) j (by omega)
    rw[show i+(j+1)=i+1+j by omega]
    exact this
  ·omega
theorem same_told {f:Nat→Int} {n:Nat} {x:Int}:∀ {m i k:Nat},k≤m→i+k≤n→(∀ j,j < k→f (i+j)=x)→(k=m∨i+k=n∨f (i+k)≠x)→sameN f n x m i=k
 | 0,i,k,h1,_,_,_=>by
  obtain rfl:k=0:=by omega
  rfl
 | m+1,i,k,h1,h2,h3,h4=>by
  unfold sameN
  cases k with
  | zero=>
   rw[if_neg]
   rintro⟨q1,q2⟩
   rcases h4 with h | h | h
   ·omega
   ·omega
   ·exact h q2
  | succ k=>
   rw[if_pos ⟨by omega,h3 0 (by omega)⟩]
   have:=same_told (f:=f) (n:=n) (x:=x) (m:=m) (i:=i+1) (k:=k) (by omega) (by omega) (fun j hj=>by rw [show i+1+j=i+(j+1) by omega]; exact h3 (j+1) (by omega)) (by
    rcases h4 with h | h | h
    ·exact .inl (by omega)
    ·exact .inr (.inl (by omega))
    ·exact .inr (.inr (by rw [show i+1+k=i+(k+1) by omega]; exact h)))
   omega
def zerosAt (f:Nat→Int) (n i:Nat):Nat:=sameN f n 0 138 i
def sameAt (f:Nat→Int) (n i:Nat):Nat:=if i=0 then 0 else sameN f n (f (i - 1)) 6 i
def runAt (f:Nat→Int) (n i:Nat):(Int×Int)×Nat:=
 if 11≤zerosAt f n i then ((18,(zerosAt f n i:Int) - 11),zerosAt f n i)
 else if 3≤zerosAt f n i then ((17,(zerosAt f n i:Int) - 3),zerosAt f n i)
 else if 3≤sameAt f n i then ((16,(sameAt f n i:Int) - 3),sameAt f n i)
 else ((f i,0),1)
theorem zeros_le (f:Nat→Int) (n i:Nat):zerosAt f n i≤138:=same_le _ _ _ _ _
theorem sameAt_le (f:Nat→Int) (n i:Nat):sameAt f n i≤6:=by
 unfold sameAt
 split
 ·omega
 ·exact same_le _ _ _ _ _
theorem runAt_pos (f:Nat→Int) (n i:Nat):1≤(runAt f n i).2:=by
 unfold runAt
 split
 ·show 1≤zerosAt f n i; omega
 ·split
  ·show 1≤zerosAt f n i; omega
  ·split
   ·show 1≤sameAt f n i; omega
   ·exact Nat.le_refl _
theorem sameAt_in {f:Nat→Int} {n i:Nat} (h:i≤n):i+sameAt f n i≤n:=by
 unfold sameAt
 split
 ·omega
 ·exact same_in _ _ _ _ _ h
theorem runAt_in {f:Nat→Int} {n i:Nat} (h:i < n):i+(runAt f n i).2≤n:=by
 have h1:i+zerosAt f n i≤n:=same_in f n 0 138 i (by omega)
 have h2:=sameAt_in (f:=f) (show i≤n by omega)
 unfold runAt
 split
 ·exact h1
 ·split
  ·exact h1
  ·split
   ·exact h2
   ·exact h
def rest (f:Nat→Int) (n:Nat) (i:Nat):List (Int×Int):=
 if i < n then (runAt f n i).1 :: rest f n (i+max 1 (runAt f n i).2) else []
termination_by n - i
decreasing_by omega
theorem rest_more {f:Nat→Int} {n i:Nat} (h:i < n):rest f n i=(runAt f n i).1 :: rest f n (i+(runAt f n i).2):=by
 rw[rest,if_pos h,Nat.max_eq_right (runAt_pos f n i)]
theorem rest_none {f:Nat→Int} {n i:Nat} (h:¬ i < n):rest f n i=[]:=by rw [rest,if_neg h]
theorem rest_length (f:Nat→Int) (n:Nat):∀ d i,n - i=d→(rest f n i).length≤n - i:=by
 intro d
 induction d using Nat.strongRecOn with
 | _ d ih=>
  intro i hd
  by_cases h:i < n
  ·rw[rest_more h,List.length_cons]
   have h1:=runAt_pos f n i
   have h2:=ih (n - (i+(runAt f n i).2)) (by omega) (i+(runAt f n i).2) rfl
   omega
  ·rw[rest_none h]
   exact Nat.zero_le _
def bitsOf (s:Int):Nat:=if s=16 then 2 else if s=17 then 3 else if s=18 then 7 else 0
def Fine (f:Nat→Int) (n:Nat):Prop:=∀ i,i < n→0≤f i∧f i≤15
theorem runAt_fine {f:Nat→Int} {n i:Nat} (hf:Fine f n) (hi:i < n):0≤(runAt f n i).1.2∧(runAt f n i).1.2 < 2 ^ bitsOf (runAt f n i).1.1:=by
 have h1:=zeros_le f n i
 have h2:=sameAt_le f n i
 have h3:=hf i hi
 unfold runAt
 split
 ·show 0≤(zerosAt f n i:Int) - 11∧(zerosAt f n i:Int) - 11 < 2 ^ 7
  omega
 ·split
  ·show 0≤(zerosAt f n i:Int) - 3∧(zerosAt f n i:Int) - 3 < 2 ^ 3
   omega
  ·split
   ·show 0≤(sameAt f n i:Int) - 3∧(sameAt f n i:Int) - 3 < 2 ^ 2
    omega
   ·show (0:Int)≤0∧(0:Int) < 2 ^ bitsOf (f i)
    have:bitsOf (f i)=0:=by unfold bitsOf; rw [if_neg (by omega),if_neg (by omega),if_neg (by omega)]
    rw[this]
    omega
theorem rest_fine {f:Nat→Int} {n:Nat} (hf:Fine f n):∀ d i,n - i=d→∀ r∈rest f n i,0≤r.2∧r.2 < 2 ^ bitsOf r.1:=by
 intro d
 induction d using Nat.strongRecOn with
 | _ d ih=>
  intro i hd r hr
  by_cases h:i < n
  ·rw[rest_more h] at hr
   rcases List.mem_cons.mp hr with rfl | hr
   ·exact runAt_fine hf h
   ·have h1:=runAt_pos f n i
    exact ih (n - (i+(runAt f n i).2)) (by omega) (i+(runAt f n i).2) rfl r hr
  ·rw[rest_none h] at hr
   cases hr
/-! The way back. -/
def tell (out:List Int) (r:Int×Int):Option (List Int):=
 if r.1=16 then (if 0≤r.2∧r.2≤3∧0 < out.length then some (List.replicate (3+r.2).toNat (out.getD (out.length - 1) 0)) else none)
 else if r.1=17 then (if 0≤r.2∧r.2≤7 then some (List.replicate (3+r.2).toNat 0) else none)
 else if r.1=18 then (if 0≤r.2∧r.2≤127 then some (List.replicate (11+r.2).toNat 0) else none)
 else if 0≤r.1∧r.1≤15∧r.2=0 then some [r.1] else none
def back (z:Nat) (out:List Int):List (Int×Int)→Option (List Int)
 | []=>if out.length=z then some out else none
 | r :: R=>match tell out r with
  | none=>none
  | some more=>if out.length+more.length≤z then back z (out ++ more) R else none
def lst (f:Nat→Int) (n:Nat):List Int:=(List.range n).map f
theorem lst_length (f:Nat→Int) (n:Nat):(lst f n).length=n:=by simp [lst]
theorem lst_get (f:Nat→Int) (n i:Nat) (h:i < n):(lst f n).getD i 0=f i:=by
 rw[List.getD_eq_getElem?_getD]
 simp[lst,h]
theorem lst_same (f:Nat→Int) (x:Int) (i:Nat):∀ k,(∀ j,j < k→f (i+j)=x)→lst f (i+k)=lst f i ++ List.replicate k x
 | 0,_=>by simp
 | k+1,h=>by
  have e:=lst_same f x i k (fun j hj=>h j (by omega))
  have e2:lst f (i+(k+1))=lst f (i+k) ++ [f (i+k)]:=by
   unfold lst
   rw[show i+(k+1)=(i+k)+1 by omega,List.range_succ,List.map_append]
   rfl
  rw[e2,e,h k (by omega),List.append_assoc,List.replicate_succ']
theorem tell_runAt {f:Nat→Int} {n i:Nat} (hf:Fine f n) (hi:i < n):∃ more,tell (lst f i) (runAt f n i).1=some more∧lst f (i+(runAt f n i).2)=lst f i ++ more:=by
 have h1:=zeros_le f n i
 have h2:=sameAt_le f n i
 have h3:=hf i hi
 have hz:∀ j,j < zerosAt f n i→f (i+j)=0:=same_all f n 0 138 i
 unfold runAt
 split
 ·rename_i q
  refine⟨List.replicate (zerosAt f n i) 0,?_,lst_same f 0 i _ hz⟩
  show tell (lst f i) (18,(zerosAt f n i:Int) - 11)=_
  unfold tell
  rw[if_neg (by show ¬ (18:Int)=16; omega),if_neg (by show ¬ (18:Int)=17; omega),if_pos rfl,if_pos (by show 0≤(zerosAt f n i:Int) - 11∧(zerosAt f n i:Int) - 11≤127; omega)]
  show some (List.replicate (11+((zerosAt f n i:Int) - 11)).toNat 0)=_
  rw[show (11+((zerosAt f n i:Int) - 11)).toNat=zerosAt f n i by omega]
 ·split
  ·rename_i q
   refine⟨List.replicate (zerosAt f n i) 0,?_,lst_same f 0 i _ hz⟩
   show tell (lst f i) (17,(zerosAt f n i:Int) - 3)=_
   unfold tell
   rw[if_neg (by show ¬ (17:Int)=16; omega),if_pos rfl,if_pos (by show 0≤(zerosAt f n i:Int) - 3∧(zerosAt f n i:Int) - 3≤7; omega)]
   show some (List.replicate (3+((zerosAt f n i:Int) - 3)).toNat 0)=_
   rw[show (3+((zerosAt f n i:Int) - 3)).toNat=zerosAt f n i by omega]
  ·split
   ·rename_i q
    have hi0:i≠0:=fun e=>by
     rw[e] at q
     simp[sameAt] at q
    have hs:∀ j,j < sameAt f n i→f (i+j)=f (i - 1):=by
     unfold sameAt
     rw[if_neg hi0]
     exact same_all f n (f (i - 1)) 6 i
    refine⟨List.replicate (sameAt f n i) (f (i - 1)),?_,lst_same f _ i _ hs⟩
    show tell (lst f i) (16,(sameAt f n i:Int) - 3)=_
    unfold tell
    rw[if_pos rfl,if_pos (by rw [lst_length]; show 0≤(sameAt f n i:Int) - 3∧(sameAt f n i:Int) - 3≤3∧0 < i; omega),lst_length,lst_get f i (i - 1) (by omega)]
    show some (List.replicate (3+((sameAt f n i:Int) - 3)).toNat (f (i - 1)))=_
    rw[show (3+((sameAt f n i:Int) - 3)).toNat=sameAt f n i by omega]
   ·refine⟨[f i],?_,lst_same f (f i) i 1 (fun j hj=>by rw [show j=0 by omega]; rfl)⟩
    show tell (lst f i) (f i,0)=_
    unfold tell
    rw[if_neg (by show ¬ f i=16; omega),if_neg (by show ¬ f i=17; omega),if_neg (by show ¬ f i=18; omega),if_pos ⟨h3.1,h3.2,rfl⟩]
end Go.Proofs.YtklpiihnbokkkaaGreatDoor.RunsMath

namespace Go.Proofs.YtklpiihnbokkkaaGreatDoor.StepMath
def bitsN (k j:Nat):Nat:=(j - k) / k
def fromN (c k:Nat):Nat→Nat
 | 0=>c
 | j+1=>fromN c k j+2 ^ bitsN k j
def findN (c k n:Nat):Nat→Nat
 | 0=>0
 | m+1=>if fromN c k m≤n then m else findN c k n m
theorem pow_pos2 (j:Nat):1≤2 ^ j:=Nat.one_le_two_pow
theorem from_lt (c k j:Nat):fromN c k j < fromN c k (j+1):=by
 have:=pow_pos2 (bitsN k j)
 show fromN c k j < fromN c k j+2 ^ bitsN k j
 omega
theorem from_mono (c k:Nat):∀ d i,fromN c k i≤fromN c k (i+d)
 | 0,_=>Nat.le_refl _
 | d+1,i=>Nat.le_trans (from_mono c k d i) (Nat.le_of_lt (from_lt c k (i+d)))
theorem from_le {c k i j:Nat} (h:i≤j):fromN c k i≤fromN c k j:=by
 obtain⟨d,rfl⟩:=Nat.exists_eq_add_of_le h
 exact from_mono c k d i
theorem find_spec {c k n:Nat} (hc:c≤n):∀ m,0 < m→findN c k n m < m∧fromN c k (findN c k n m)≤n∧∀ j,findN c k n m < j→j < m→n < fromN c k j
 | 0,h=>by omega
 | m+1,_=>by
  unfold findN
  split
  ·rename_i h
   exact⟨by omega,h,fun j h1 h2=>by omega⟩
  ·rename_i h
   rcases Nat.eq_zero_or_pos m with h0 | h0
   ·subst h0
    exact absurd hc h
   ·obtain⟨q1,q2,q3⟩:=find_spec (c:=c) (k:=k) hc m h0
    refine⟨by omega,q2,fun j h1 h2=>?_⟩
    rcases Nat.lt_or_ge j m with h3 | h3
    ·exact q3 j h1 h3
    ·have:j=m:=by omega
     subst this
     omega
theorem find_told {c k n m j:Nat} (h1:fromN c k j≤n) (h2:n < fromN c k (j+1)) (hj:j < m) (hc:c≤n):findN c k n m=j:=by
 obtain⟨q1,q2,q3⟩:=find_spec (c:=c) (k:=k) hc m (by omega)
 rcases Nat.lt_trichotomy (findN c k n m) j with h | h | h
 ·have:=q3 j h hj
  omega
 ·exact h
 ·have:=from_le (c:=c) (k:=k) (show j+1≤findN c k n m from h)
  omega
theorem find_in {c k n m:Nat} (hc:c≤n) (hm:n < fromN c k m):findN c k n m < m∧fromN c k (findN c k n m)≤n∧n < fromN c k (findN c k n m+1):=by
 have h0:0 < m:=by
  rcases Nat.eq_zero_or_pos m with h | h
  ·subst h
   have:n < c:=hm
   omega
  ·exact h
 obtain⟨q1,q2,q3⟩:=find_spec (c:=c) (k:=k) hc m h0
 refine⟨q1,q2,?_⟩
 rcases Nat.lt_or_ge (findN c k n m+1) m with h | h
 ·exact q3 _ (Nat.lt_succ_self _) h
 ·have:findN c k n m+1=m:=by omega
  rw[this]
  exact hm
theorem find_extra {c k n m:Nat} (hc:c≤n) (hm:n < fromN c k m):n - fromN c k (findN c k n m) < 2 ^ bitsN k (findN c k n m):=by
 obtain⟨_,h1,h2⟩:=find_in hc hm
 have:fromN c k (findN c k n m+1)=fromN c k (findN c k n m)+2 ^ bitsN k (findN c k n m):=rfl
 omega
/-! Lengths: steps of 4 from 3 on; the 28th would begin at 259. Distances: steps of 2 from 1 on; the 30th would begin at 32769. -/
theorem len_28:fromN 3 4 28=259:=by decide
theorem dist_30:fromN 1 2 30=32769:=by decide
theorem len_bits:∀ j,j < 28→bitsN 4 j≤5∧(j < 8→bitsN 4 j=0):=by decide
theorem dist_bits:∀ j,j < 30→bitsN 2 j≤13∧(j < 4→bitsN 2 j=0):=by decide
def lenCode (n:Nat):Nat×Nat×Nat:=if n < 258 then (257+findN 3 4 n 28,bitsN 4 (findN 3 4 n 28),n - fromN 3 4 (findN 3 4 n 28)) else (285,0,0)
def lenBits (s:Nat):Nat×Nat:=if s=285 then (0,258) else (bitsN 4 (s - 257),fromN 3 4 (s - 257))
def distCode (n:Nat):Nat×Nat×Nat:=(findN 1 2 n 30,bitsN 2 (findN 1 2 n 30),n - fromN 1 2 (findN 1 2 n 30))
def distBits (s:Nat):Nat×Nat:=(bitsN 2 s,fromN 1 2 s)
def LengthCodeOf (n:Int):Int×Int×Int:=if 3≤n∧n≤258 then (((lenCode n.toNat).1:Int),((lenCode n.toNat).2.1:Int),((lenCode n.toNat).2.2:Int)) else (0,0,0)
def DistCodeOf (n:Int):Int×Int×Int:=if 1≤n∧n≤32768 then (((distCode n.toNat).1:Int),((distCode n.toNat).2.1:Int),((distCode n.toNat).2.2:Int)) else (0,0,0)
def LengthOfR (s x:Int):Int×Bool:=if (257≤s∧s≤285)∧0≤x∧x < 2 ^ (lenBits s.toNat).1 then (((lenBits s.toNat).2:Int)+x,true) else (0,false)
def DistOfR (s x:Int):Int×Bool:=if (0≤s∧s≤29)∧0≤x∧x < 2 ^ (distBits s.toNat).1 then (((distBits s.toNat).2:Int)+x,true) else (0,false)
theorem len_fact {n:Nat} (h3:3≤n) (h:n < 258):findN 3 4 n 28 < 28∧fromN 3 4 (findN 3 4 n 28)≤n∧n - fromN 3 4 (findN 3 4 n 28) < 2 ^ bitsN 4 (findN 3 4 n 28):=by
 have h1:=len_28
 have h2:=find_in (c:=3) (k:=4) (n:=n) (m:=28) h3 (by omega)
 exact⟨h2.1,h2.2.1,find_extra h3 (by omega)⟩
theorem dist_fact {n:Nat} (h1:1≤n) (h:n≤32768):findN 1 2 n 30 < 30∧fromN 1 2 (findN 1 2 n 30)≤n∧n - fromN 1 2 (findN 1 2 n 30) < 2 ^ bitsN 2 (findN 1 2 n 30):=by
 have h2:=dist_30
 have h3:=find_in (c:=1) (k:=2) (n:=n) (m:=30) h1 (by omega)
 exact⟨h3.1,h3.2.1,find_extra h1 (by omega)⟩
theorem pow_cast (m:Nat):((2 ^ m:Nat):Int)=(2:Int) ^ m:=by
 induction m with
 | zero=>rfl
 | succ m ih=>rw [Nat.pow_succ,Int.pow_succ,Int.natCast_mul,ih]; rfl
theorem len_back {n:Int} (h3:3≤n) (h:n≤258):LengthOfR (LengthCodeOf n).1 (LengthCodeOf n).2.2=(n,true)∧0≤(LengthCodeOf n).2.2∧(LengthCodeOf n).2.2 < 2 ^ (LengthCodeOf n).2.1.toNat∧257≤(LengthCodeOf n).1∧(LengthCodeOf n).1≤285∧0≤(LengthCodeOf n).2.1∧(LengthCodeOf n).2.1≤5:=by
 obtain⟨m,rfl⟩:=Int.eq_ofNat_of_zero_le (show 0≤n by omega)
 unfold LengthCodeOf
 rw[if_pos ⟨h3,h⟩,Int.toNat_natCast]
 unfold lenCode
 split
 ·rename_i hlt
  obtain⟨f1,f2,f3⟩:=len_fact (show 3≤m by omega) hlt
  have f4:=len_bits _ f1
  have f5:=pow_cast (bitsN 4 (findN 3 4 m 28))
  have e1:((257+findN 3 4 m 28:Nat):Int).toNat=257+findN 3 4 m 28:=Int.toNat_natCast _
  have e2:lenBits (257+findN 3 4 m 28)=(bitsN 4 (findN 3 4 m 28),fromN 3 4 (findN 3 4 m 28)):=by
   unfold lenBits
   rw[if_neg (by omega),Nat.add_sub_cancel_left]
  refine⟨?_,?_,?_,?_,?_,?_,?_⟩
  ·show LengthOfR ((257+findN 3 4 m 28:Nat):Int) ((m - fromN 3 4 (findN 3 4 m 28):Nat):Int)=_
   unfold LengthOfR
   rw[e1,e2,if_pos ⟨by omega,by omega,by show ((m - fromN 3 4 (findN 3 4 m 28):Nat):Int) < 2 ^ bitsN 4 (findN 3 4 m 28); omega⟩]
   show (((fromN 3 4 (findN 3 4 m 28):Nat):Int)+((m - fromN 3 4 (findN 3 4 m 28):Nat):Int),true)=_
   congr 1
   omega
  ·show (0:Int)≤((m - fromN 3 4 (findN 3 4 m 28):Nat):Int)
   omega
  ·show ((m - fromN 3 4 (findN 3 4 m 28):Nat):Int) < 2 ^ ((bitsN 4 (findN 3 4 m 28):Nat):Int).toNat
   rw[Int.toNat_natCast]
   omega
  ·show (257:Int)≤((257+findN 3 4 m 28:Nat):Int)
   omega
  ·show ((257+findN 3 4 m 28:Nat):Int)≤285
   omega
  ·show (0:Int)≤((bitsN 4 (findN 3 4 m 28):Nat):Int)
   omega
  ·show ((bitsN 4 (findN 3 4 m 28):Nat):Int)≤5
   omega
 ·rename_i hlt
  obtain rfl:m=258:=by omega
  refine⟨by decide,by decide,by decide,by decide,by decide,by decide,by decide⟩
theorem dist_back {n:Int} (h1:1≤n) (h:n≤32768):DistOfR (DistCodeOf n).1 (DistCodeOf n).2.2=(n,true)∧0≤(DistCodeOf n).2.2∧(DistCodeOf n).2.2 < 2 ^ (DistCodeOf n).2.1.toNat∧0≤(DistCodeOf n).1∧(DistCodeOf n).1≤29∧0≤(DistCodeOf n).2.1∧(DistCodeOf n).2.1≤13:=by
 obtain⟨m,rfl⟩:=Int.eq_ofNat_of_zero_le (show 0≤n by omega)
 unfold DistCodeOf
 rw[if_pos ⟨h1,h⟩,Int.toNat_natCast]
 unfold distCode
 obtain⟨f1,f2,f3⟩:=dist_fact (show 1≤m by omega) (show m≤32768 by omega)
 have f4:=dist_bits _ f1
 have f5:=pow_cast (bitsN 2 (findN 1 2 m 30))
 refine⟨?_,?_,?_,?_,?_,?_,?_⟩
 ·show DistOfR ((findN 1 2 m 30:Nat):Int) ((m - fromN 1 2 (findN 1 2 m 30):Nat):Int)=_
  unfold DistOfR
  rw[Int.toNat_natCast,if_pos ⟨by omega,by omega,by show ((m - fromN 1 2 (findN 1 2 m 30):Nat):Int) < 2 ^ bitsN 2 (findN 1 2 m 30); omega⟩]
  show (((fromN 1 2 (findN 1 2 m 30):Nat):Int)+((m - fromN 1 2 (findN 1 2 m 30):Nat):Int),true)=_
  congr 1
  omega
 ·show (0:Int)≤((m - fromN 1 2 (findN 1 2 m 30):Nat):Int)
  omega
 ·show ((m - fromN 1 2 (findN 1 2 m 30):Nat):Int) < 2 ^ ((bitsN 2 (findN 1 2 m 30):Nat):Int).toNat
  rw[Int.toNat_natCast]
  omega
 ·show (0:Int)≤((findN 1 2 m 30:Nat):Int)
  omega
 ·show ((findN 1 2 m 30:Nat):Int)≤29
  omega
 ·show (0:Int)≤((bitsN 2 (findN 1 2 m 30):Nat):Int)
  omega
 ·show ((bitsN 2 (findN 1 2 m 30):Nat):Int)≤13
  omega
end Go.Proofs.YtklpiihnbokkkaaGreatDoor.StepMath

namespace Go.Proofs.YtklpiihnbokkkaaGreatDoor.InfMath
open OutMath CodeMath TakeMath HitMath WayMath StepMath TokMath RunsMath
section
variable (s:ByteArray) (most:Nat)
def takeE (p n:Nat):Except Nat (Int×Nat):=if p+n≤8 * s.size then .ok (num s p n,p+n) else .error 2
noncomputable def symE (f:Nat→Int) (n p:Nat):Except Nat (Nat×Nat):=if (symW f n s p).2.2=0 then .ok ((symW f n s p).1,p+(symW f n s p).2.1) else if (symW f n s p).2.2=2 then .error 2 else .error 6
def bytesAt (p n:Nat):List Int:=(List.range n).map fun i=>num s (p+8 * i) 8
def wholeAt (p:Nat):Nat:=8 * ((p+7) / 8)
def storedE (p : Nat) (O : List Int) : Except Nat (List Int × Nat) :=
  if wholeAt p + 32 ≤ 8 * s.size then
    (if num s (wholeAt p) 16 + num s (wholeAt p + 16) 16 ≠ 65535 then .error 4
     else if (most : Int) - O.length < num s (wholeAt p) 16 then .error 8
     else if wholeAt p + 32 + 8 * (num s (wholeAt p) 16).toNat ≤ 8 * s.size then .ok (O ++ bytesAt s (wholeAt p + 32) (num s (wholeAt p) 16).toNat, wholeAt p + 32 + 8 * (num s (wholeAt p) 16).toNat)
     else .error 2)
  else .error 2
def orderL:List Nat:=[16,17,18,0,8,7,9,6,10,5,11,4,12,3,13,2,14,1,15]
def thirdF (p k:Nat):Nat→Int:=fun i=>if orderL.idxOf i < k then num s (p+3 * orderL.idxOf i) 3 else 0
noncomputable def allF (f3 : Nat → Int) (N : Nat) : Nat → Nat → List Int → Except Nat (List Int × Nat)
  | 0, _, _ => .error 9
  | m + 1, p, L => if L.length < N then
      match symE s f3 19 p with
      | .error x => .error x
      | .ok (y, p1) => match takeE s p1 (bitsOf (y : Int)) with
        | .error x => .error x
        | .ok (x, p2) => match tell L ((y : Int), x) with
          | none => .error 5
          | some more => if L.length + more.length ≤ N then allF f3 N m p2 (L ++ more) else .error 5
    else .ok (L, p)
def TabRight (n:Nat) (L:List Int):Prop:=(kindOf (fun i=>L.getD i 0) n=2∨kindOf (fun i=>L.getD i 0) n=3)∧L.getD 256 0≠0∧(kindOf (fun i=>(L.drop n).getD i 0) (L.length - n)=1∨kindOf (fun i=>(L.drop n).getD i 0) (L.length - n)=2∨kindOf (fun i=>(L.drop n).getD i 0) (L.length - n)=3)
instance (n:Nat) (L:List Int):Decidable (TabRight n L):=by unfold TabRight; exact inferInstance
noncomputable def tablesE (p : Nat) : Except Nat (List Int × Nat × Nat) :=
  if p + 14 ≤ 8 * s.size then
    (if 29 < num s p 5 ∨ 29 < num s (p + 5) 5 then .error 5
     else if p + 14 + 3 * (num s (p + 10) 4 + 4).toNat ≤ 8 * s.size then
       (if kindOf (thirdF s (p + 14) (num s (p + 10) 4 + 4).toNat) 19 ≠ 2 then .error 5
        else match allF s (thirdF s (p + 14) (num s (p + 10) 4 + 4).toNat) ((num s p 5 + 257).toNat + (num s (p + 5) 5 + 1).toNat) (8 * s.size + 1) (p + 14 + 3 * (num s (p + 10) 4 + 4).toNat) [] with
          | .error x => .error x
          | .ok (L, p2) => if TabRight (num s p 5 + 257).toNat L then .ok (L, (num s p 5 + 257).toNat, p2) else .error 5)
     else .error 2)
  else .error 2
noncomputable def symbolsF (f1:Nat→Int) (n1:Nat) (f2:Nat→Int) (n2:Nat):Nat→Nat→List Int→Except Nat (List Int×Nat)
 | 0,_,_=>.error 9
 | m+1,p,O=>match symE s f1 n1 p with
  | .error x=>.error x
  | .ok (y,p1)=>
   if y=256 then .ok (O,p1)
   else if y < 256 then (if O.length=most then .error 8 else symbolsF f1 n1 f2 n2 m p1 (O ++ [(y:Int)]))
   else if 285 < y then .error 6
   else match takeE s p1 (lenBits y).1 with
    | .error x=>.error x
    | .ok (x,p2)=>match symE s f2 n2 p2 with
     | .error x=>.error x
     | .ok (q,p3)=>
      if 29 < q then .error 6
      else match takeE s p3 (distBits q).1 with
       | .error x=>.error x
       | .ok (z,p4)=>
        if (O.length:Int) < (distBits q).2+z then .error 7
        else if (most:Int) - O.length < (lenBits y).2+x then .error 8
        else symbolsF f1 n1 f2 n2 m p4 (copyN ((distBits q).2+z).toNat ((lenBits y).2+x).toNat O)
def fixed1 (i:Nat):Int:=if i < 144 then 8 else if i < 256 then 9 else if i < 280 then 7 else 8
def fixed2 (_:Nat):Int:=5
noncomputable def blockE (kind:Int) (p:Nat) (O:List Int):Except Nat (List Int×Nat):=
 if kind=0 then storedE s most p O
 else if kind=1 then symbolsF s most fixed1 288 fixed2 32 (8 * s.size+1) p O
 else if kind=2 then (match tablesE s p with
  | .error x=>.error x
  | .ok (L,n,p2)=>symbolsF s most (fun i=>L.getD i 0) n (fun i=>(L.drop n).getD i 0) (L.length - n) (8 * s.size+1) p2 O)
 else .error 3
noncomputable def blocksF : Nat → Nat → List Int → List Int → Except Nat (List Int × Nat × List Int)
  | 0, _, _, _ => .error 9
  | m + 1, p, O, Ty => if p + 3 ≤ 8 * s.size then
      match blockE s most (num s (p + 1) 2) (p + 3) O with
      | .error x => .error x
      | .ok (O', p') => if num s p 1 = 0 then blocksF m p' O' (Ty ++ [num s (p + 1) 2]) else .ok (O', p', Ty ++ [num s (p + 1) 2])
    else .error 2
end
noncomputable def inflateE (s:ByteArray) (most:Int):Except Nat (List Int×Nat×List Int):=if s.size≤12000∧0≤most∧most≤12000 then blocksF s most.toNat (8 * s.size+1) 0 [] [] else .error 1
end Go.Proofs.YtklpiihnbokkkaaGreatDoor.InfMath

namespace Go.Proofs.YtklpiihnbokkkaaGreatDoor
open CodeMath InfMath
theorem fixed1_coded:Coded fixed1 288:=by
 refine⟨by decide,fun i _=>?_,?_⟩
 ·unfold fixed1
  repeat' split
  all_goals omega
 ·decide +kernel
theorem fixed2_coded:Coded fixed2 32:=by
 refine⟨by decide,fun i _=>?_,?_⟩
 ·unfold fixed2
  omega
 ·decide +kernel
end Go.Proofs.YtklpiihnbokkkaaGreatDoor

namespace Go.Proofs.YtklpiihnbokkkaaGreatDoor
namespace TrimMath
open TokMath
def trimN (f:Nat→Int) (least:Nat):Nat→Nat
 | 0=>0
 | n+1=>if least < n+1∧f n=0 then trimN f least n else n+1
theorem trimN_zero {f:Nat→Int} {least n:Nat} (h:least < n+1) (h0:f n=0):trimN f least (n+1)=trimN f least n:=if_pos ⟨h,h0⟩
theorem trimN_keep {f:Nat→Int} {least n:Nat} (h0:f n≠0):trimN f least (n+1)=n+1:=if_neg fun h=>h0 h.2
theorem trimN_least {f:Nat→Int} {least:Nat}:∀ {n:Nat},n≤least→trimN f least n=n
 | 0,_=>rfl
 | _+1,h=>if_neg fun q=>by omega
theorem trimN_le (f:Nat→Int) (least:Nat):∀ n,trimN f least n≤n
 | 0=>Nat.le_refl _
 | n+1=>by
  unfold trimN
  split
  ·have:=trimN_le f least n
   omega
  ·exact Nat.le_refl _
theorem trimN_ge (f:Nat→Int) (least:Nat):∀ n,least≤n→least≤trimN f least n
 | 0,h=>h
 | n+1,h=>by
  unfold trimN
  split
  ·exact trimN_ge f least n (by omega)
  ·exact h
theorem trimN_out (f:Nat→Int) (least:Nat):∀ n i,trimN f least n≤i→i < n→f i=0
 | 0,i,_,h=>by omega
 | n+1,i,h1,h2=>by
  unfold trimN at h1
  split at h1
  ·rename_i q
   by_cases e:i=n
   ·rw[e]; exact q.2
   ·exact trimN_out f least n i h1 (by omega)
  ·omega
def TokensRight (L:List Tok):Prop:=L.length≤12000∧∀ t∈L,TokRight t
instance (L:List Tok):Decidable (TokensRight L):=by unfold TokensRight; exact inferInstance
end TrimMath
end Go.Proofs.YtklpiihnbokkkaaGreatDoor

namespace Go.Proofs.YtklpiihnbokkkaaGreatDoor
open Go.RowKit Go.Joins
def fints (f:Nat→Int) (n:Nat):List Value:=(List.range n).map fun i=>.int .i64 (f i)
def upd (f:Nat→Int) (j:Nat) (x:Int):Nat→Int:=fun i=>if i=j then x else f i
theorem fints_length (f:Nat→Int) (n:Nat):(fints f n).length=n:=by simp [fints]
theorem fints_get (f:Nat→Int) (n j:Nat) (h:j < (fints f n).length):(fints f n)[j]=.int .i64 (f j):=by simp [fints]
theorem fints_congr {f g:Nat→Int} {n:Nat} (h:∀ i,i < n→f i=g i):fints f n=fints g n:=by
 unfold fints
 refine List.map_congr_left fun i hi=>?_
 rw[h i (List.mem_range.mp hi)]
theorem fints_set (f:Nat→Int) (n j:Nat) (x:Int):(fints f n).set j (.int .i64 x)=fints (upd f j x) n:=by
 refine List.ext_getElem (by simp [fints]) fun i h1 h2=>?_
 rw[List.getElem_set,fints_get (upd f j x)]
 by_cases hij:j=i
 ·subst hij
  rw[if_pos rfl]
  simp[upd]
 ·have hji:¬ i=j:=fun h=>hij h.symm
  rw[if_neg hij,fints_get]
  simp[upd,hji]
def IOwn (w:World) (base g n cap:Nat) (f:Nat→Int):Prop:=Own 3 w base g (.slice (some ⟨g,0,none⟩) n cap) (fints f n)
section
variable {w w':World} {base g n cap:Nat} {f:Nat→Int}
theorem IOwn.lt (h:IOwn w base g n cap f):g < w.heap.size:=Own.lt h
theorem IOwn.base_le (h:IOwn w base g n cap f):base≤g:=Own.base_le h
theorem IOwn.cell (h:IOwn w base g n cap f) (j:Nat) (hj:j < n):w.cell? ⟨g,j,none⟩=some (.int .i64 (f j)):=by
 have h':j < (fints f n).length:=by rw [fints_length]; exact hj
 rw[Own.cell h j h',fints_get]
theorem IOwn.free (h:IOwn w base g n cap f) (j:Nat) (hj:j < n):w.frozen? ⟨g,j,none⟩=false:=Own.free h j (by rw [fints_length]; exact hj)
theorem IOwn.set (h:IOwn w base g n cap f) (j:Nat) (hj:j < n) (x:Int):IOwn (w.setCell ⟨g,j,none⟩ (.int .i64 x)) base g n cap (upd f j x):=by
 have k:=Own.set h j (by rw [fints_length]; exact hj) (.int .i64 x)
 rw[fints_set] at k
 exact k
theorem IOwn.congr {f':Nat→Int} (h:IOwn w base g n cap f) (e:∀ i,i < n→f i=f' i):IOwn w base g n cap f':=by
 unfold IOwn at h ⊢
 rw[← fints_congr e]
 exact h
theorem IOwn.keep (h:IOwn w base g n cap f) (hk:w'.heap[g]?=w.heap[g]?):IOwn w' base g n cap f:=Own.keep h hk
theorem IOwn.alloc (h:IOwn w base g n cap f) (o:Obj):IOwn (w.alloc o) base g n cap f:=Own.alloc h o
theorem IOwn.drew (h:IOwn w base g n cap f):IOwn w.drew base g n cap f:=Own.drewN h 1
theorem IOwn.below {B:Nat} (h:IOwn w base g n cap f) (hb:Below B w w') (hg:g < B):IOwn w' base g n cap f:=Own.below h hb hg
theorem IOwn.called (h:IOwn w base g n cap f) (hb:Below w.heap.size w w'):IOwn w' base g n cap f:=Own.below h hb h.lt
theorem IOwn.mono {b:Nat} (h:IOwn w base g n cap f) (hb:b≤base):IOwn w b g n cap f:=Own.mono h hb
theorem IOwn.grown {row:Option Nat} (h:IOwn w base g n cap f) (hg:w.grownBy w' row) (hne:row≠some g):IOwn w' base g n cap f:=h.keep (hg.block g h.lt (Ne.symm hne))
theorem made_ints (n:Nat):(madeCells #[Value.int .i64 0] n).toList=fints (fun _=>0) n:=by
 unfold madeCells fints
 rw[Array.toList_map,Array.toList_range]
 refine List.map_congr_left fun i _=>?_
 simp[Nat.mod_one]
theorem IOwn.made (w:World) (n:Nat) (hn:n≤maxLen) (hb:base≤w.heap.size):IOwn (w.alloc (.cells (madeCells #[Value.int .i64 0] n) 3)) base w.heap.size n n (fun _=>0):=by
 refine⟨n,madeCells #[Value.int .i64 0] n,(0,0),by rw [fints_length],hb,heap_alloc_new w _,.inl rfl,by rw [fints_length]; exact Nat.le_refl _,hn,by simp [madeCells],?_⟩
 rw[made_ints,fints_length,List.take_of_length_le (by rw [fints_length]; exact Nat.le_refl _)]
end
def Came (w:World) (a:Option Addr) (n:Nat) (f:Nat→Int):Prop:=
 n=0∨∃ g off,a=some ⟨g,off,none⟩∧g < w.heap.size∧∀ j,j < n→w.cell? ⟨g,off+j,none⟩=some (.int .i64 (f j))
theorem Came.called {w w':World} {a:Option Addr} {n:Nat} {f:Nat→Int} (h:Came w a n f) (hb:Below w.heap.size w w'):Came w' a n f:=by
 rcases h with h | ⟨g,off,ha,hg,hc⟩
 ·exact .inl h
 ·exact .inr ⟨g,off,ha,Nat.lt_of_lt_of_le hg hb.size,fun j hj=>(hb.cell (p:=⟨g,off+j,none⟩) hg).trans (hc j hj)⟩
def SL (w:World) (base:Nat) (a:Option Addr) (n cap:Nat) (f:Nat→Int):Prop:=n=0∨∃ g,a=some ⟨g,0,none⟩∧IOwn w base g n cap f
theorem SL.came {w:World} {base:Nat} {a:Option Addr} {n cap:Nat} {f:Nat→Int} (h:SL w base a n cap f):Came w a n f:=by
 rcases h with h | ⟨g,rfl,h⟩
 ·exact .inl h
 ·exact .inr ⟨g,0,rfl,h.lt,fun j hj=>by rw [Nat.zero_add]; exact h.cell j hj⟩
theorem SL.called {w w':World} {base:Nat} {a:Option Addr} {n cap:Nat} {f:Nat→Int} (h:SL w base a n cap f) (hb:Below w.heap.size w w'):SL w' base a n cap f:=by
 rcases h with h | ⟨g,rfl,h⟩
 ·exact .inl h
 ·exact .inr ⟨g,rfl,h.called hb⟩
theorem IOwn.sl {w:World} {base g n cap:Nat} {f:Nat→Int} (h:IOwn w base g n cap f):SL w base (some ⟨g,0,none⟩) n cap f:=.inr ⟨g,rfl,h⟩
theorem Came.grown {w w':World} {a:Option Addr} {n B:Nat} {f:Nat→Int} {row:Option Nat} (h:Came w a n f) (hB:∀ g off,a=some ⟨g,off,none⟩→g < B) (hr:∀ k,row=some k→B≤k) (hg:w.grownBy w' row):Came w' a n f:=by
 rcases h with h | ⟨g,off,ha,hlt,hc⟩
 ·exact .inl h
 ·refine .inr ⟨g,off,ha,Nat.lt_of_lt_of_le hlt hg.size,fun j hj=>?_⟩
  have hne:some g≠row:=fun e=>by have h1:=hB g off ha; have h2:=hr g e.symm; omega
  have hb:=hg.block g hlt hne
  rw[← hc j hj]
  unfold World.cell?
  rw[hb]
end Go.Proofs.YtklpiihnbokkkaaGreatDoor

namespace Go.Proofs.YtklpiihnbokkkaaGreatDoor
namespace TokLenMath
open TokMath StepMath
def sym1 (t:Tok):Nat:=if t.2.1=0 then t.1.toNat else (LengthCodeOf t.2.1).1.toNat
def sym2 (t:Tok):Nat:=(DistCodeOf t.2.2).1.toNat
def cntA (L:List Tok) (i:Nat):Int:=(if i=256 then 1 else 0)+((L.filter fun t=>decide (sym1 t=i)).length:Int)
def cntB (L:List Tok) (i:Nat):Int:=((L.filter fun t=>decide (t.2.1≠0∧sym2 t=i)).length:Int)
theorem sym1_byte {x z:Int}:sym1 (x,0,z)=x.toNat:=if_pos rfl
theorem sym1_rep {x y z:Int} (h:y≠0):sym1 (x,y,z)=(LengthCodeOf y).1.toNat:=if_neg h
theorem len_range {y:Int} (h:3≤y∧y≤258):257≤(LengthCodeOf y).1∧(LengthCodeOf y).1≤285:=by
 unfold LengthCodeOf
 rw[if_pos h]
 unfold lenCode
 split
 ·have:=(len_fact (n:=y.toNat) (by omega) (by omega)).1
  simp only []
  omega
 ·simp only []
  omega
theorem dist_range {z:Int} (h:1≤z∧z≤32768):0≤(DistCodeOf z).1∧(DistCodeOf z).1≤29:=by
 unfold DistCodeOf
 rw[if_pos h]
 unfold distCode
 have:=(dist_fact (n:=z.toNat) (by omega) (by omega)).1
 simp only []
 omega
theorem sym1_lt {t:Tok} (h:TokRight t):sym1 t < 286∧sym1 t≠256:=by
 obtain⟨x,y,z⟩:=t
 unfold TokRight at h
 by_cases e:y=0
 ·subst e
  rw[if_pos rfl] at h
  rw[sym1_byte]
  simp only [] at h
  omega
 ·rw[if_neg e] at h
  rw[sym1_rep e]
  have:=len_range (y:=y) h.2.1
  omega
theorem cnt_le (L:List Tok) (p:Tok→Bool):(L.filter p).length≤L.length:=List.length_filter_le p L
theorem cntA_le {L:List Tok} (h:∀ t∈L,TokRight t) (hL:L.length≤12000) (i:Nat):0≤cntA L i∧cntA L i≤12000:=by
 unfold cntA
 by_cases e:i=256
 ·have h0:(L.filter fun t=>decide (sym1 t=i))=[]:=List.filter_eq_nil_iff.mpr fun t ht=>by
   have:=(sym1_lt (h t ht)).2
   simp only [decide_eq_true_eq]
   omega
  rw[h0,if_pos e]
  simp
 ·rw[if_neg e]
  have:=cnt_le L (fun t=>decide (sym1 t=i))
  omega
theorem cntB_le {L:List Tok} (hL:L.length≤12000) (i:Nat):0≤cntB L i∧cntB L i≤12000:=by
 unfold cntB
 have:=cnt_le L (fun t=>decide (t.2.1≠0∧sym2 t=i))
 omega
end TokLenMath
end Go.Proofs.YtklpiihnbokkkaaGreatDoor

namespace Go.Proofs.YtklpiihnbokkkaaGreatDoor
namespace TellMath
open TokMath StepMath
abbrev Cod:=Int×Int×Int
def symsT (t:Tok):List (Bool×Cod):=if t.2.1=0 then [(false,(t.1,0,0))] else [(false,LengthCodeOf t.2.1),(true,DistCodeOf t.2.2)]
def symsL (L:List Tok):List (Bool×Cod):=L.flatMap symsT
theorem symsT_byte (x z:Int):symsT (x,0,z)=[(false,(x,0,0))]:=if_pos rfl
theorem symsT_rep (x:Int) {y:Int} (z:Int) (h:y≠0):symsT (x,y,z)=[(false,LengthCodeOf y),(true,DistCodeOf z)]:=if_neg h
theorem symsL_snoc {L:List Tok} {j:Nat} (h:j < L.length):symsL (L.take (j+1))=symsL (L.take j) ++ symsT (L.getD j (0,0,0)):=by
 unfold symsL
 rw[List.take_add_one,List.getElem?_eq_getElem h,List.flatMap_append,List.getD_eq_getElem?_getD,List.getElem?_eq_getElem h]
 simp
theorem symsT_length (t:Tok):(symsT t).length≤2:=by
 unfold symsT
 split <;> simp
theorem symsL_length:∀ L:List Tok,(symsL L).length≤2 * L.length
 | []=>Nat.le_refl _
 | t :: L=>by
  have h1:=symsL_length L
  have h2:=symsT_length t
  show (symsT t ++ symsL L).length≤_
  rw[List.length_append,List.length_cons]
  omega
end TellMath
end Go.Proofs.YtklpiihnbokkkaaGreatDoor

namespace Go.Proofs.YtklpiihnbokkkaaGreatDoor
namespace PartMath
open OutMath PutMath BlockMath
abbrev Part:=Int×Nat×Bool
def bitsP (p:Part):List Int:=pieceBits p.1 p.2.1 p.2.2
def partBits:List Part→List Int
 | []=>[]
 | p :: l=>bitsP p ++ partBits l
theorem partBits_app:∀ a b:List Part,partBits (a ++ b)=partBits a ++ partBits b
 | [],_=>rfl
 | p :: l,b=>by
  show bitsP p ++ partBits (l ++ b)=(bitsP p ++ partBits l) ++ partBits b
  rw[partBits_app l b,List.append_assoc]
theorem bits01_nil:Bits01 []:=fun i=>by simp
theorem partBits_01:∀ l:List Part,Bits01 (partBits l)
 | []=>bits01_nil
 | _ :: l=>(pieceBits_01 _ _ _).append (partBits_01 l)
theorem bitsP_length (p:Part):(bitsP p).length=p.2.1:=pieceBits_length _ _ _
def Right (p:Part):Prop:=0≤p.1∧p.1≤16777216∧p.2.1≤24
theorem partBits_take {l:List Part} {j:Nat} (h:j < l.length):partBits (l.take (j+1))=partBits (l.take j) ++ bitsP (l.getD j (0,0,false)):=by
 rw[List.take_add_one,List.getElem?_eq_getElem h,partBits_app,List.getD_eq_getElem?_getD,List.getElem?_eq_getElem h]
 show _ ++ (bitsP _ ++ [])=_
 rw[List.append_nil]
 rfl
theorem partBits_take_le:∀ (l:List Part) (j:Nat),(partBits (l.take j)).length≤(partBits l).length
 | [],_=>by simp
 | _ :: _,0=>Nat.zero_le _
 | p :: l,j+1=>by
  show (bitsP p ++ partBits (l.take j)).length≤(bitsP p ++ partBits l).length
  have:=partBits_take_le l j
  rw[List.length_append,List.length_append]
  omega
theorem putB_nil (xs:List Int) (c:Nat):putB xs c []=xs:=rfl
theorem bitsP_none (x:Int) (h:Bool):bitsP (x,0,h)=[]:=rfl
end PartMath
end Go.Proofs.YtklpiihnbokkkaaGreatDoor
