/-
  Texts of the proof, put together.
-/
import Derived.Test.YtklpiihnbokkkaaGreatDoorFk05
namespace Go.Proofs.YtklpiihnbokkkaaGreatDoor
namespace PackageMath
def cN (p:Nat→Bool):Nat→Nat
 | 0=>0
 | k+1=>cN p k+(if p k then 1 else 0)
theorem cN_le (p:Nat→Bool):∀ k,cN p k≤k
 | 0=>Nat.le_refl _
 | k+1=>by have:=cN_le p k; unfold cN; split <;> omega
theorem cN_none {p:Nat→Bool}:∀ {k:Nat},(∀ j,j < k→p j=false)→cN p k=0
 | 0,_=>rfl
 | k+1,h=>by
  unfold cN
  rw[cN_none (fun j hj=>h j (by omega)),h k (by omega)]
  rfl
theorem cN_from (d:Nat):∀ k,cN (fun j=>decide (d≤j)) k=k - d
 | 0=>by simp [cN]
 | k+1=>by
  unfold cN
  rw[cN_from d k]
  by_cases h:d≤k
  ·rw[if_pos (by simpa using h)]; omega
  ·rw[if_neg (by simpa using h)]; omega
theorem p_none {p:Nat→Bool} {k:Nat} (hm:∀ j,j < k→p j=true→p (j+1)=true) (hk:p k=false):∀ j,j≤k→p j=false:=by
 have key:∀ d,d≤k→p (k - d)=false:=by
  intro d
  induction d with
  | zero=>intro _; exact hk
  | succ d ih=>
   intro hd
   cases hp:p (k - (d+1)) with
   | false=>rfl
   | true=>
    have:=hm (k - (d+1)) (by omega) hp
    rw[show k - (d+1)+1=k - d by omega,ih (by omega)] at this
    cases this
 intro j hj
 have:=key (k - j) (by omega)
 rwa [show k - (k - j)=j by omega] at this
theorem geo {p:Nat→Bool}:∀ L,(∀ j,j+1 < L→p j=true→p (j+1)=true)→sumTo (fun j=>if p j then (2:Int) ^ j else 0) L=2 ^ L - 2 ^ (L - cN p L)
 | 0,_=>by simp [sumTo,cN]
 | L+1,hm=>by
  have ih:=geo L (fun j hj=>hm j (by omega))
  show sumTo (fun j=>if p j then (2:Int) ^ j else 0) L+(if p L then (2:Int) ^ L else 0)=_
  cases hp:p L with
  | false=>
   have hz:=p_none (k:=L) (fun j hj=>hm j (by omega)) hp
   have h0:cN p (L+1)=0:=cN_none (fun j hj=>hz j (by omega))
   have h1:cN p L=0:=cN_none (fun j hj=>hz j (by omega))
   rw[ih,h0,h1]
   simp
  | true=>
   have hc:cN p (L+1)=cN p L+1:=by
    show cN p L+(if p L then 1 else 0)=_
    rw[if_pos hp]
   have hl:=cN_le p L
   rw[ih,hc,show L+1 - (cN p L+1)=L - cN p L by omega,Int.pow_succ]
   simp
   omega
theorem flat (p:Nat→Bool) (c:Int):∀ L,sumTo (fun j=>if p j then c else 0) L=c * (cN p L:Int)
 | 0=>by simp [sumTo,cN]
 | L+1=>by
  show sumTo (fun j=>if p j then c else 0) L+(if p L then c else 0)=c * ((cN p L+(if p L then 1 else 0):Nat):Int)
  rw[flat p c L]
  cases p L with
  | false=>simp
  | true=>simp [Int.mul_add]
theorem sumTo_cut (g:Nat→Int):∀ n a,a≤n→sumTo (fun r=>if r < a then g r else 0) n=sumTo g a
 | 0,a,h=>by
  obtain rfl:a=0:=by omega
  rfl
 | n+1,a,h=>by
  show sumTo (fun r=>if r < a then g r else 0) n+(if n < a then g n else 0)=_
  by_cases ha:a=n+1
  ·subst ha
   rw[if_pos (by omega)]
   show _=sumTo g n+g n
   rw[sumTo_congr (g':=g) (fun i hi=>by show (if i < n+1 then g i else 0)=g i; rw [if_pos (by omega)])]
  ·rw[if_neg (by omega),sumTo_cut g n a (by omega)]
   omega
theorem sumTo_front (g:Nat→Int):∀ k,sumTo g (k+1)=g 0+sumTo (fun r=>g (r+1)) k
 | 0=>by simp [sumTo]
 | k+1=>by
  show sumTo g (k+1)+g (k+1)=g 0+(sumTo (fun r=>g (r+1)) k+g (k+1))
  rw[sumTo_front g k]
  omega
theorem sumTo_nonneg {g:Nat→Int}:∀ {k:Nat},(∀ i,i < k→0≤g i)→0≤sumTo g k
 | 0,_=>Int.le_refl _
 | k+1,h=>by
  have h1:=sumTo_nonneg (k:=k) (fun i hi=>h i (by omega))
  have h2:=h k (by omega)
  show 0≤sumTo g k+g k
  omega
def wt (X:List Coin) (r:Nat):Int:=(X.getD r (0,[])).1
theorem pick_ge:∀ {X:List Coin},Asc X→∀ (B:Nat→Bool) (m:Nat),m≤cN B X.length→sm w1 (X.take m)≤sumTo (fun r=>if B r then wt X r else 0) X.length:=by
 intro X
 have count_front:∀ (B:Nat→Bool) k,cN B (k+1)=(if B 0 then 1 else 0)+cN (fun r=>B (r+1)) k:=by
  intro B k
  induction k with
  | zero=>simp [cN]
  | succ k ih=>
   show cN B (k+1)+(if B (k+1) then 1 else 0)=(if B 0 then 1 else 0)+(cN (fun r=>B (r+1)) k+(if B (k+1) then 1 else 0))
   rw[ih]
   omega
 induction X with
 | nil=>
  intro _ B m hm
  have:m=0:=by simpa [cN] using hm
  subst this
  simp[sm,sumTo]
 | cons x l ih=>
  intro hX B m hm
  have hm':m≤(if B 0 then 1 else 0)+cN (fun r=>B (r+1)) l.length:=by
   rw[← count_front]; exact hm
  have e:sumTo (fun r=>if B r then wt (x :: l) r else 0) (x :: l).length=(if B 0 then x.1 else 0)+sumTo (fun r=>if B (r+1) then wt l r else 0) l.length:=by
   show sumTo _ (l.length+1)=_
   rw[sumTo_front]
   rfl
  rw[e]
  cases hB:B 0 with
  | true=>
   rw[hB] at hm'
   simp only [if_true] at hm' ⊢
   cases m with
   | zero=>
    have k:=ih hX.2.2 (fun r=>B (r+1)) 0 (Nat.zero_le _)
    have:=hX.1
    simp[sm] at k ⊢
    omega
   | succ m=>
    have k:=ih hX.2.2 (fun r=>B (r+1)) m (by omega)
    show w1 x+sm w1 (l.take m)≤_
    have:w1 x=x.1:=rfl
    omega
  | false=>
   rw[hB] at hm'
   simp only [Bool.false_eq_true,if_false] at hm' ⊢
   have k:=ih hX.2.2 (fun r=>B (r+1)) m (by omega)
   have hl:=cN_le (fun r=>B (r+1)) l.length
   cases m with
   | zero=>
    simp[sm] at k ⊢
    exact k
   | succ m=>
    have z:=sm_next hX.2.2 x.1 hX.2.1 m (by omega)
    show w1 x+sm w1 (l.take m)≤_
    have:w1 x=x.1:=rfl
    omega
theorem lower {X:List Coin} (hX:Asc X) (B:Nat→Nat→Bool):∀ k m,m≤(lists X k).length→(m:Int) * 2 ^ k≤sumTo (fun j=>(cN (B j) X.length:Int) * 2 ^ j) (k+1)→
  sm w1 ((lists X k).take m)≤sumTo (fun j=>sumTo (fun r=>if B j r then wt X r else 0) X.length) (k+1)
 | 0,m,_,hv=>by
  have e:sumTo (fun j=>(cN (B j) X.length:Int) * 2 ^ j) (0+1)=0+(cN (B 0) X.length:Int) * 1:=rfl
  rw[e] at hv
  have e2:(m:Int) * 2 ^ 0=m:=by simp
  rw[e2] at hv
  have k:=pick_ge hX (B 0) m (by omega)
  show sm w1 (X.take m)≤0+sumTo (fun r=>if B 0 r then wt X r else 0) X.length
  omega
 | k+1,m,hm,hv=>by
  have hvk:sumTo (fun j=>(cN (B j) X.length:Int) * 2 ^ j) (k+1)≤(X.length:Int) * (2 ^ (k+1) - 1):=by
   have key:∀ q,sumTo (fun j=>(cN (B j) X.length:Int) * 2 ^ j) q≤(X.length:Int) * (2 ^ q - 1):=by
    intro q
    induction q with
    | zero=>simp [sumTo]
    | succ q ih=>
     have h1:=cN_le (B q) X.length
     have h2:(cN (B q) X.length:Int) * 2 ^ q≤(X.length:Int) * 2 ^ q:=Int.mul_le_mul_of_nonneg_right (by omega) (Int.le_of_lt (Int.pow_pos (by omega)))
     have h3:(X.length:Int) * (2 ^ (q+1) - 1)=(X.length:Int) * (2 ^ q - 1)+(X.length:Int) * 2 ^ q:=by
      rw[← Int.mul_add,Int.pow_succ,show (2:Int) ^ q * 2 - 1=2 ^ q - 1+2 ^ q by omega]
     show sumTo (fun j=>(cN (B j) X.length:Int) * 2 ^ j) q+(cN (B q) X.length:Int) * 2 ^ q≤_
     omega
   exact key (k+1)
  have hlong:=lists_long X k
  obtain⟨cc,hcc⟩:∃ cc,cc=cN (B (k+1)) X.length:=⟨_,rfl⟩
  have hcl:cc≤X.length:=by rw [hcc]; exact cN_le _ _
  have hv':(m:Int) * 2 ^ (k+1)≤sumTo (fun j=>(cN (B j) X.length:Int) * 2 ^ j) (k+1)+(cc:Int) * 2 ^ (k+1):=by
   rw[hcc]; exact hv
  have hq:(0:Int) < 2 ^ k:=Int.pow_pos (by omega)
  obtain⟨a,b,hab,hac,hb0⟩:∃ a b:Nat,a+b=m∧a≤cc∧(b=0∨a=cc):=by
   rcases Nat.le_total m cc with h | h
   ·exact⟨m,0,by omega,h,.inl rfl⟩
   ·exact⟨cc,m - cc,by omega,Nat.le_refl _,.inr rfl⟩
  have hvb:((2 * b:Nat):Int) * 2 ^ k≤sumTo (fun j=>(cN (B j) X.length:Int) * 2 ^ j) (k+1):=by
   rcases hb0 with rfl | rfl
   ·have:0≤sumTo (fun j=>(cN (B j) X.length:Int) * 2 ^ j) (k+1):=sumTo_nonneg (fun i _=>Int.mul_nonneg (by omega) (Int.le_of_lt (Int.pow_pos (by omega))))
    simpa using this
   ·rw[← hab,Int.pow_succ] at hv'
    have e1:((a+b:Nat):Int) * (2 ^ k * 2)=(a:Int) * (2 ^ k * 2)+((2 * b:Nat):Int) * 2 ^ k:=by
     rw[show ((a+b:Nat):Int)=(a:Int)+(b:Int) by omega,Int.add_mul,show ((2 * b:Nat):Int)=(b:Int) * 2 by omega,Int.mul_assoc (b:Int) 2,Int.mul_comm 2]
    omega
  have hb2:2 * b≤(lists X k).length:=by
   have h1:((2 * b:Nat):Int) * 2 ^ k < (((lists X k).length:Int)+1) * 2 ^ k:=by omega
   have h2:=Int.lt_of_mul_lt_mul_right h1 (Int.le_of_lt hq)
   omega
  have ih:=lower hX B k (2 * b) hb2 hvb
  have hp:=pick_ge hX (B (k+1)) a (by rw [← hcc]; exact hac)
  have hml:=merge_le hX (pairs_asc (lists_asc hX k)) a b (by omega) (by rw [pairs_length]; omega)
  rw[pairs_sm addi_w1 _ _ hb2,hab] at hml
  show sm w1 ((merge X (pairs (lists X k))).take m)≤sumTo (fun j=>sumTo (fun r=>if B j r then wt X r else 0) X.length) (k+1)+sumTo (fun r=>if B (k+1) r then wt X r else 0) X.length
  omega
theorem package {X:List Coin} (hX:Asc X) (K:Nat) (h2:2≤X.length) (hn:(X.length:Int)≤2 ^ (K+1)):
  2 * X.length - 2≤(lists X K).length∧∃ len:Nat→Nat,(∀ r,r < X.length→1≤len r∧len r≤K+1)∧sumTo (fun r=>(2:Int) ^ (K+1 - len r)) X.length=2 ^ (K+1)∧
   (∀ φ,Addi φ→sm φ ((lists X K).take (2 * X.length - 2))=sumTo (fun r=>φ (X.getD r (0,[])) * (len r:Int)) X.length)∧
   (∀ l':Nat→Nat,(∀ r,r < X.length→l' r≤K+1)→sumTo (fun r=>(2:Int) ^ (K+1 - l' r)) X.length≤2 ^ (K+1)→sumTo (fun r=>wt X r * (len r:Int)) X.length≤sumTo (fun r=>wt X r * (l' r:Int)) X.length):=by
 have hq:(0:Int) < 2 ^ K:=Int.pow_pos (by omega)
 have hlen:2 * X.length - 2≤(lists X K).length:=by
  have hl:=lists_long X K
  rw[Int.pow_succ] at hl hn
  generalize (2:Int) ^ K=q at *
  have e:(X.length:Int) * (q * 2 - 1)=((2 * X.length - 2:Nat):Int) * q+(q * 2 - (X.length:Int)):=by
   rw[show ((2 * X.length - 2:Nat):Int)=2 * (X.length:Int) - 2 by omega,Int.mul_sub,Int.sub_mul]
   have e1:(X.length:Int) * (q * 2)=2 * (X.length:Int) * q:=by
    rw[Int.mul_comm q 2,← Int.mul_assoc,Int.mul_comm (X.length:Int) 2]
   omega
  have h1:((2 * X.length - 2:Nat):Int) * q < (((lists X K).length:Int)+1) * q:=by omega
  have h3:=Int.lt_of_mul_lt_mul_right h1 (Int.le_of_lt hq)
  omega
 refine⟨hlen,?_⟩
 obtain⟨a,g1,g2,g3,g4,_⟩:=levels hX K (2 * X.length - 2) hlen
 have hcut:∀ (g:Nat→Int) j,j≤K→sumTo g (a j)=sumTo (fun r=>if r < a j then g r else 0) X.length:=fun g j hj=>(sumTo_cut g X.length (a j) (g3 j hj)).symm
 have hphi:∀ g:Nat→Int,sumTo (fun j=>sumTo g (a j)) (K+1)=sumTo (fun r=>g r * (cN (fun j=>decide (r < a j)) (K+1):Int)) X.length:=by
  intro g
  rw[sumTo_congr (g':=fun j=>sumTo (fun r=>if r < a j then g r else 0) X.length) (fun j hj=>hcut g j (by omega)),sumTo_swap]
  refine sumTo_congr (fun r _=>?_)
  rw[← flat]
  refine sumTo_congr (fun j _=>?_)
  by_cases h:r < a j <;> simp [h]
 have hpow:sumTo (fun r=>(2:Int) ^ (K+1) - 2 ^ (K+1 - cN (fun j=>decide (r < a j)) (K+1))) X.length=((2 * X.length - 2:Nat):Int) * 2 ^ K:=by
  rw[← g2]
  have e1:sumTo (fun j=>(a j:Int) * 2 ^ j) (K+1)=sumTo (fun j=>sumTo (fun r=>if r < a j then (2:Int) ^ j else 0) X.length) (K+1):=by
   refine sumTo_congr (fun j hj=>?_)
   rw[← hcut (fun _=>(2:Int) ^ j) j (by omega)]
   have:∀ q:Nat,sumTo (fun _=>(2:Int) ^ j) q=(q:Int) * 2 ^ j:=by
    intro q
    induction q with
    | zero=>simp [sumTo]
    | succ q ih=>
     show sumTo (fun _=>(2:Int) ^ j) q+2 ^ j=_
     rw[ih,show ((q+1:Nat):Int)=(q:Int)+1 by omega,Int.add_mul,Int.one_mul]
   exact (this (a j)).symm
  rw[e1,sumTo_swap]
  refine sumTo_congr (fun r _=>?_)
  have k:=geo (p:=fun j=>decide (r < a j)) (K+1) (fun j hj hp=>by
   have:=g4 j (by omega)
   have hp':r < a j:=by simpa using hp
   simp
   omega)
  rw[← k]
  refine sumTo_congr (fun j _=>?_)
  by_cases h:r < a j <;> simp [h]
 have hsub:∀ (g:Nat→Int) (c:Int) q,sumTo (fun r=>c - g r) q=(q:Int) * c - sumTo g q:=by
  intro g c q
  induction q with
  | zero=>simp [sumTo]
  | succ q ih=>
   show sumTo (fun r=>c - g r) q+(c - g q)=((q+1:Nat):Int) * c - (sumTo g q+g q)
   rw[ih,show ((q+1:Nat):Int)=(q:Int)+1 by omega,Int.add_mul,Int.one_mul]
   omega
 have hkraft:sumTo (fun r=>(2:Int) ^ (K+1 - cN (fun j=>decide (r < a j)) (K+1))) X.length=2 ^ (K+1):=by
  rw[hsub,Int.pow_succ] at hpow
  rw[Int.pow_succ]
  have e:((2 * X.length - 2:Nat):Int) * 2 ^ K=(X.length:Int) * (2 ^ K * 2) - 2 ^ K * 2:=by
   rw[show ((2 * X.length - 2:Nat):Int)=(X.length:Int) * 2 - 2 by omega,Int.sub_mul,Int.mul_assoc,Int.mul_comm 2 (2 ^ K)]
  omega
 refine⟨fun r=>cN (fun j=>decide (r < a j)) (K+1),fun r hr=>⟨?_,cN_le _ _⟩,hkraft,fun φ hφ=>?_,fun l' hl' hov=>?_⟩
 ·have hpos:∀ q,1≤(2:Int) ^ q:=fun q=>Int.pow_pos (by omega)
  rcases Nat.eq_zero_or_pos (cN (fun j=>decide (r < a j)) (K+1)) with h0 | h0
  ·exfalso
   obtain⟨s,hs,hne⟩:∃ s,s < X.length∧s≠r:=by
    by_cases h:r=0
    ·exact⟨1,by omega,by omega⟩
    ·exact⟨0,by omega,by omega⟩
   have key:∀ q,sumTo (fun t=>if t=r then (2:Int) ^ (K+1) else if t=s then 1 else 0) q=(if r < q then 2 ^ (K+1) else 0)+(if s < q then 1 else 0):=by
    intro q
    induction q with
    | zero=>simp [sumTo]
    | succ q ih=>
     show sumTo _ q+(if q=r then (2:Int) ^ (K+1) else if q=s then 1 else 0)=_
     rw[ih]
     by_cases e1:q=r
     ·subst e1
      rw[if_pos rfl,if_neg (show ¬ q < q by omega),if_pos (show q < q+1 by omega)]
      by_cases e2:s < q
      ·rw[if_pos e2,if_pos (by omega)]; omega
      ·rw[if_neg e2,if_neg (by omega)]; omega
     ·rw[if_neg e1]
      by_cases e2:q=s
      ·subst e2
       rw[if_pos rfl,if_neg (show ¬ q < q by omega),if_pos (show q < q+1 by omega)]
       by_cases e3:r < q
       ·rw[if_pos e3,if_pos (by omega)]; omega
       ·rw[if_neg e3,if_neg (by omega)]; omega
      ·rw[if_neg e2]
       have c1:(r < q+1)=(r < q):=by simp; omega
       have c2:(s < q+1)=(s < q):=by simp; omega
       simp only [c1,c2]
       omega
   have hle:sumTo (fun t=>if t=r then (2:Int) ^ (K+1) else if t=s then 1 else 0) X.length≤sumTo (fun r=>(2:Int) ^ (K+1 - cN (fun j=>decide (r < a j)) (K+1))) X.length:=by
    refine sumTo_le (fun t _=>?_)
    have:=hpos (K+1 - cN (fun j=>decide (t < a j)) (K+1))
    by_cases e1:t=r
    ·subst e1
     rw[if_pos rfl,h0]
     simp
    ·rw[if_neg e1]
     by_cases e2:t=s
     ·rw[if_pos e2]; exact this
     ·rw[if_neg e2]; omega
   rw[key,if_pos hr,if_pos hs,hkraft] at hle
   omega
  ·exact h0
 ·rw[g1 φ hφ,← hphi]
  exact sumTo_congr (fun j hj=>sm_take φ X (a j) (g3 j (by omega)))
 ·have hB:∀ r,cN (fun j=>decide (K+1 - l' r≤j)) (K+1)=K+1 - (K+1 - l' r):=fun r=>cN_from _ _
  have hcnt:sumTo (fun j=>(cN (fun r=>decide (K+1 - l' r≤j)) X.length:Int) * 2 ^ j) (K+1)=(X.length:Int) * 2 ^ (K+1) - sumTo (fun r=>(2:Int) ^ (K+1 - l' r)) X.length:=by
   have e1:sumTo (fun j=>(cN (fun r=>decide (K+1 - l' r≤j)) X.length:Int) * 2 ^ j) (K+1)=sumTo (fun j=>sumTo (fun r=>if K+1 - l' r≤j then (2:Int) ^ j else 0) X.length) (K+1):=by
    refine sumTo_congr (fun j _=>?_)
    rw[Int.mul_comm,← flat]
    refine sumTo_congr (fun r _=>?_)
    by_cases h:K+1 - l' r≤j <;> simp [h]
   rw[e1,sumTo_swap,← hsub]
   refine sumTo_congr (fun r hr=>?_)
   have k:=geo (p:=fun j=>decide (K+1 - l' r≤j)) (K+1) (fun j hj hp=>by
    have hp':K+1 - l' r≤j:=by simpa using hp
    simp
    omega)
   rw[hB r,show K+1 - (K+1 - (K+1 - l' r))=K+1 - l' r by have:=hl' r hr; omega] at k
   rw[← k]
   refine sumTo_congr (fun j _=>?_)
   by_cases h:K+1 - l' r≤j <;> simp [h]
  have low:=lower hX (fun j r=>decide (K+1 - l' r≤j)) K (2 * X.length - 2) hlen (by
   rw[hcnt]
   rw[Int.pow_succ] at hov ⊢
   have e:((2 * X.length - 2:Nat):Int) * 2 ^ K=(X.length:Int) * (2 ^ K * 2) - 2 ^ K * 2:=by
    rw[show ((2 * X.length - 2:Nat):Int)=(X.length:Int) * 2 - 2 by omega,Int.sub_mul,Int.mul_assoc,Int.mul_comm 2 (2 ^ K)]
   omega)
  rw[g1 w1 addi_w1,sumTo_congr (g':=fun j=>sumTo (fun r=>wt X r) (a j)) (fun j hj=>sm_take w1 X (a j) (g3 j (by omega))),hphi,sumTo_swap] at low
  refine Int.le_trans low (Int.le_of_eq (sumTo_congr (fun r hr=>?_)))
  have k:=flat (fun j=>decide (K+1 - l' r≤j)) (wt X r) (K+1)
  rw[hB r,show K+1 - (K+1 - l' r)=l' r by have:=hl' r hr; omega] at k
  exact k
end PackageMath
end Go.Proofs.YtklpiihnbokkkaaGreatDoor
namespace Go.Proofs.YtklpiihnbokkkaaGreatDoor
namespace PackageMath
def ins (x:Coin):List Coin→List Coin
 | []=>[x]
 | y :: l=>if y.1≤x.1 then y :: ins x l else x :: y :: l
def firstL (c:Nat→Int):Nat→List Coin
 | 0=>[]
 | i+1=>if c i=0 then firstL c i else ins (c i,[i]) (firstL c i)
theorem ins_mem (x:Coin):∀ (l:List Coin) (z:Coin),z∈ins x l→z=x∨z∈l
 | [],z,h=>by simp [ins] at h; exact .inl h
 | y :: l,z,h=>by
  unfold ins at h
  split at h
  ·rcases List.mem_cons.mp h with rfl | h
   ·simp
   ·rcases ins_mem x l z h with h | h
    ·exact .inl h
    ·simp[h]
  ·rcases List.mem_cons.mp h with h | h
   ·exact .inl h
   ·exact .inr h
theorem ins_asc {x:Coin} (hx:0≤x.1):∀ {l:List Coin},Asc l→Asc (ins x l)
 | [],_=>⟨hx,fun y hy=>(by cases hy),trivial⟩
 | y :: l,h=>by
  unfold ins
  split
  ·rename_i hle
   refine⟨h.1,fun z hz=>?_,ins_asc hx h.2.2⟩
   rcases ins_mem x l z hz with rfl | hz
   ·exact hle
   ·exact h.2.1 z hz
  ·rename_i hle
   refine⟨hx,fun z hz=>?_,h⟩
   rcases List.mem_cons.mp hz with rfl | hz
   ·omega
   ·have:=h.2.1 z hz; omega
theorem ins_length (x:Coin):∀ l:List Coin,(ins x l).length=l.length+1
 | []=>rfl
 | y :: l=>by
  unfold ins
  split
  ·simp[ins_length x l]
  ·simp
theorem ins_sm (φ:Coin→Int) (x:Coin):∀ l:List Coin,sm φ (ins x l)=φ x+sm φ l
 | []=>rfl
 | y :: l=>by
  unfold ins
  split
  ·show φ y+sm φ (ins x l)=φ x+(φ y+sm φ l)
   rw[ins_sm φ x l]
   omega
  ·rfl
theorem first_asc {c:Nat→Int}:∀ n,(∀ i,i < n→0≤c i)→Asc (firstL c n)
 | 0,_=>trivial
 | n+1,h=>by
  unfold firstL
  split
  ·exact first_asc n (fun i hi=>h i (by omega))
  ·exact ins_asc (h n (by omega)) (first_asc n (fun i hi=>h i (by omega)))
theorem first_length (c:Nat→Int):∀ n,(firstL c n).length=cN (fun i=>decide (c i≠0)) n
 | 0=>rfl
 | n+1=>by
  show (if c n=0 then firstL c n else ins (c n,[n]) (firstL c n)).length=cN (fun i=>decide (c i≠0)) n+(if decide (c n≠0)=true then 1 else 0)
  by_cases h:c n=0
  ·rw[if_pos h,if_neg (by simpa using h),first_length c n]
   omega
  ·rw[if_neg h,if_pos (by simpa using h),ins_length,first_length c n]
theorem first_sm (φ:Coin→Int) (c:Nat→Int):∀ n,sm φ (firstL c n)=sumTo (fun i=>if c i=0 then 0 else φ (c i,[i])) n
 | 0=>rfl
 | n+1=>by
  show sm φ (if c n=0 then firstL c n else ins (c n,[n]) (firstL c n))=sumTo (fun i=>if c i=0 then 0 else φ (c i,[i])) n+(if c n=0 then 0 else φ (c n,[n]))
  by_cases h:c n=0
  ·rw[if_pos h,if_pos h,first_sm φ c n]
   omega
  ·rw[if_neg h,if_neg h,ins_sm,first_sm φ c n]
   omega
theorem first_mem {c:Nat→Int}:∀ n z,z∈firstL c n→∃ i,i < n∧c i≠0∧z=(c i,[i])
 | 0,z,h=>by cases h
 | n+1,z,h=>by
  unfold firstL at h
  split at h
  ·obtain⟨i,h1,h2⟩:=first_mem n z h
   exact⟨i,by omega,h2⟩
  ·rename_i hc
   rcases ins_mem _ _ _ h with rfl | h
   ·exact⟨n,by omega,hc,rfl⟩
   ·obtain⟨i,h1,h2⟩:=first_mem n z h
    exact⟨i,by omega,h2⟩
def ct (i:Nat):Coin→Int:=fun x=>(x.2.count i:Int)
theorem addi_ct (i:Nat):Addi (ct i):=fun a b=>by
 show ((a.2 ++ b.2).count i:Int)=(a.2.count i:Int)+(b.2.count i:Int)
 rw[List.count_append]
 omega
theorem sm_whole (φ:Coin→Int) (X:List Coin):sumTo (fun r=>φ (X.getD r (0,[]))) X.length=sm φ X:=by
 rw[← sm_take φ X X.length (Nat.le_refl _),List.take_of_length_le (Nat.le_refl _)]
theorem sumTo_two {g:Nat→Int} {n r t:Nat} (hr:r < n) (ht:t < n) (hne:r≠t) (h0:∀ i,i < n→0≤g i):g r+g t≤sumTo g n:=by
 have one:∀ k q,q < k→(∀ i,i < k→0≤g i)→g q≤sumTo g k:=by
  intro k
  induction k with
  | zero=>intro q hq; omega
  | succ k ih=>
   intro q hq h
   show g q≤sumTo g k+g k
   have hk:=h k (by omega)
   by_cases e:q=k
   ·subst e
    have:=sumTo_nonneg (g:=g) (k:=q) (fun i hi=>h i (by omega))
    omega
   ·have:=ih q (by omega) (fun i hi=>h i (by omega))
    omega
 have two:∀ k,r < k→t < k→(∀ i,i < k→0≤g i)→g r+g t≤sumTo g k:=by
  intro k
  induction k with
  | zero=>intro hr; omega
  | succ k ih=>
   intro hr ht h
   show g r+g t≤sumTo g k+g k
   have hk:=h k (by omega)
   by_cases e1:r=k
   ·subst e1
    have:=one r t (by omega) (fun i hi=>h i (by omega))
    omega
   ·by_cases e2:t=k
    ·subst e2
     have:=one t r (by omega) (fun i hi=>h i (by omega))
     omega
    ·have:=ih (by omega) (by omega) (fun i hi=>h i (by omega))
     omega
 exact two n hr ht h0
theorem sumTo_single (g:Nat→Int) (n r:Nat) (hr:r < n) (h:∀ t,t < n→t≠r→g t=0):sumTo g n=g r:=by
 have key:∀ k,k≤n→sumTo g k=if r < k then g r else 0:=by
  intro k
  induction k with
  | zero=>intro _; rw [if_neg (by omega)]; rfl
  | succ k ih=>
   intro hk
   show sumTo g k+g k=_
   rw[ih (by omega)]
   by_cases e:k=r
   ·subst e
    rw[if_neg (by omega),if_pos (by omega)]
    omega
   ·rw[h k (by omega) e]
    by_cases h2:r < k
    ·rw[if_pos h2,if_pos (by omega)]; omega
    ·rw[if_neg h2,if_neg (by omega)]; omega
 rw[key n (Nat.le_refl n),if_pos hr]
def lenS (c:Nat→Int) (N K i:Nat):Int:=sm (ct i) ((lists (firstL c N) K).take (2 * (firstL c N).length - 2))
theorem package_syms {c : Nat → Int} {N : Nat} (hc : ∀ i, i < N → 0 ≤ c i) (K : Nat) (h2 : 2 ≤ (firstL c N).length) (hn : ((firstL c N).length : Int) ≤ 2 ^ (K + 1)) :
    2 * (firstL c N).length - 2 ≤ (lists (firstL c N) K).length ∧ (∀ i, i < N → (c i = 0 → lenS c N K i = 0) ∧ (c i ≠ 0 → 1 ≤ lenS c N K i ∧ lenS c N K i ≤ (K : Int) + 1)) ∧
      sumTo (fun i => if c i = 0 then 0 else (2 : Int) ^ (K + 1 - (lenS c N K i).toNat)) N = 2 ^ (K + 1) ∧
      (∀ l' : Nat → Int, (∀ i, i < N → c i ≠ 0 → 0 ≤ l' i ∧ l' i ≤ (K : Int) + 1) → sumTo (fun i => if c i = 0 then 0 else (2 : Int) ^ (K + 1 - (l' i).toNat)) N ≤ 2 ^ (K + 1) →
        sumTo (fun i => c i * lenS c N K i) N ≤ sumTo (fun i => c i * l' i) N) := by
  have hX : Asc (firstL c N) := first_asc N hc
  obtain ⟨hl, len, g1, g2, g3, g4⟩ := package hX K h2 hn
  obtain ⟨X, hXe⟩ : ∃ X, X = firstL c N := ⟨_, rfl⟩
  have hmem : ∀ r, r < X.length → ∃ i, i < N ∧ c i ≠ 0 ∧ X.getD r (0, []) = (c i, [i]) := fun r hr => by
    refine first_mem N _ ?_
    rw [← hXe, List.getD_eq_getElem?_getD, List.getElem?_eq_getElem hr]
    exact List.getElem_mem _
  have hcount : ∀ i, sumTo (fun r => ct i (X.getD r (0, []))) X.length ≤ 1 := by
    intro i
    rw [sm_whole, hXe, first_sm]
    have key : ∀ n, sumTo (fun q => if c q = 0 then 0 else ct i (c q, [q])) n ≤ (if i < n then 1 else 0) := by
      intro n
      induction n with
      | zero => simp [sumTo]
      | succ n ih =>
        show sumTo _ n + (if c n = 0 then 0 else ct i (c n, [n])) ≤ _
        have e : ct i (c n, [n]) = if n = i then 1 else 0 := by
          show (([n] : List Nat).count i : Int) = _
          by_cases h : n = i
          · subst h; simp
          · rw [if_neg h]
            have : ([n] : List Nat).count i = 0 := List.count_eq_zero.mpr (by simpa using fun e => h e.symm)
            omega
        have d : (if c n = 0 then (0 : Int) else ct i (c n, [n])) ≤ (if n = i then 1 else 0) := by
          rw [e]
          split
          · split <;> omega
          · exact Int.le_refl _
        generalize (if c n = 0 then (0 : Int) else ct i (c n, [n])) = u at d ⊢
        generalize sumTo (fun q => if c q = 0 then 0 else ct i (c q, [q])) n = v at ih ⊢
        by_cases h1 : i < n
        · have a1 : (if i < n + 1 then (1 : Int) else 0) = 1 := if_pos (by omega)
          have a3 : (if n = i then (1 : Int) else 0) = 0 := if_neg (by omega)
          rw [if_pos h1] at ih
          rw [a3] at d
          rw [a1]
          omega
        · rw [if_neg h1] at ih
          by_cases h2 : n = i
          · have a1 : (if i < n + 1 then (1 : Int) else 0) = 1 := if_pos (by omega)
            rw [if_pos h2] at d
            rw [a1]
            omega
          · have a1 : (if i < n + 1 then (1 : Int) else 0) = 0 := if_neg (by omega)
            rw [if_neg h2] at d
            rw [a1]
            omega
    have := key N
    split at this <;> omega
  have hct1 : ∀ i a, ct i (a, [i]) = 1 := fun i a => by
    show (([i] : List Nat).count i : Int) = 1
    simp
  have hct0 : ∀ i x, 0 ≤ ct i x := fun i x => by show (0 : Int) ≤ (_ : Nat); omega
  -- the length of the symbol at rank r
  have hlen : ∀ r i, r < X.length → X.getD r (0, []) = (c i, [i]) → lenS c N K i = (len r : Int) := by
    intro r i hr hx
    have e := g3 (ct i) (addi_ct i)
    rw [← hXe] at e
    unfold lenS
    rw [← hXe, e]
    rw [sumTo_single _ X.length r hr (fun t ht hne => ?_), hx, hct1]
    · omega
    · have k := sumTo_two (g := fun r => ct i (X.getD r (0, []))) hr ht (Ne.symm hne) (fun q _ => hct0 i _)
      have k2 := hcount i
      have k3 : ct i (X.getD r (0, [])) = 1 := by rw [hx]; exact hct1 _ _
      have k4 := hct0 i (X.getD t (0, []))
      have k5 : ct i (X.getD t (0, [])) = 0 := by
        have k' : ct i (X.getD r (0, [])) + ct i (X.getD t (0, [])) ≤ sumTo (fun r => ct i (X.getD r (0, []))) X.length := k
        omega
      rw [k5, Int.zero_mul]
  have hrank : ∀ i, i < N → c i ≠ 0 → ∃ r, r < X.length ∧ X.getD r (0, []) = (c i, [i]) := by
    intro i hi hci
    have hin : (c i, [i]) ∈ X := by
      have key : ∀ n, i < n → (c i, [i]) ∈ firstL c n := by
        have insl : ∀ (x z : Coin) (l : List Coin), z = x ∨ z ∈ l → z ∈ ins x l := by
          intro x z l
          induction l with
          | nil => intro h; rcases h with rfl | h
                   · simp [ins]
                   · cases h
          | cons y l ih =>
            intro h
            unfold ins
            split
            · rcases h with rfl | h
              · exact List.mem_cons_of_mem _ (ih (.inl rfl))
              · rcases List.mem_cons.mp h with rfl | h
                · simp
                · exact List.mem_cons_of_mem _ (ih (.inr h))
            · rcases h with rfl | h
              · simp
              · exact List.mem_cons_of_mem _ h
        intro n
        induction n with
        | zero => intro h; omega
        | succ n ih =>
          intro h
          unfold firstL
          by_cases e : i = n
          · subst e
            rw [if_neg hci]
            exact insl _ _ _ (.inl rfl)
          · split
            · exact ih (by omega)
            · exact insl _ _ _ (.inr (ih (by omega)))
      rw [hXe]
      exact key N hi
    obtain ⟨r, hr, he⟩ := List.getElem_of_mem hin
    exact ⟨r, hr, by rw [List.getD_eq_getElem?_getD, List.getElem?_eq_getElem hr, ← he]; rfl⟩
  -- a sum over ranks is one over symbols
  have hsum : ∀ (G : Nat → Int), sumTo (fun r => G ((X.getD r (0, [])).2.headD 0)) X.length = sumTo (fun i => if c i = 0 then 0 else G i) N := by
    intro G
    have := sm_whole (fun x => G (x.2.headD 0)) X
    rw [this, hXe, first_sm]
    rfl
  rw [← hXe] at g1 g2 g3 g4 h2
  refine ⟨by rw [← hXe] at hl ⊢; exact hl, fun i hi => ⟨fun h0 => ?_, fun hci => ?_⟩, ?_, fun l' hl' hov => ?_⟩
  · unfold lenS
    have e := g3 (ct i) (addi_ct i)
    rw [← hXe, e]
    rw [sumTo_congr (g' := fun _ => 0) (fun r hr => ?_), sumTo_zero]
    obtain ⟨q, hq1, hq2, hq3⟩ := hmem r hr
    have : ct i (X.getD r (0, [])) = 0 := by
      rw [hq3]
      show (([q] : List Nat).count i : Int) = 0
      have : ([q] : List Nat).count i = 0 := List.count_eq_zero.mpr (by
        intro hm
        have : i = q := by simpa using hm
        subst this
        exact hq2 h0)
      omega
    rw [this, Int.zero_mul]
  · obtain ⟨r, hr, hx⟩ := hrank i hi hci
    have := g1 r hr
    rw [hlen r i hr hx]
    omega
  · rw [← hsum (fun i => (2 : Int) ^ (K + 1 - (lenS c N K i).toNat)), ← g2]
    refine sumTo_congr (fun r hr => ?_)
    obtain ⟨q, hq1, hq2, hq3⟩ := hmem r hr
    rw [hq3]
    show (2 : Int) ^ (K + 1 - (lenS c N K q).toNat) = _
    rw [hlen r q hr hq3, Int.toNat_natCast]
  · have low := g4 (fun r => (l' ((X.getD r (0, [])).2.headD 0)).toNat) (fun r hr => by
      obtain ⟨q, hq1, hq2, hq3⟩ := hmem r hr
      have := hl' q hq1 hq2
      show (l' ((X.getD r (0, [])).2.headD 0)).toNat ≤ K + 1
      rw [hq3]
      show (l' q).toNat ≤ K + 1
      omega) (by
      have := hsum (fun i => (2 : Int) ^ (K + 1 - (l' i).toNat))
      rw [← this] at hov
      exact hov)
    have e1 : sumTo (fun r => wt X r * (len r : Int)) X.length = sumTo (fun i => c i * lenS c N K i) N := by
      have k := hsum (fun i => c i * lenS c N K i)
      have k2 : sumTo (fun i => if c i = 0 then 0 else c i * lenS c N K i) N = sumTo (fun i => c i * lenS c N K i) N := sumTo_congr (fun i _ => by
        by_cases h : c i = 0
        · rw [if_pos h, h, Int.zero_mul]
        · rw [if_neg h])
      rw [← k2, ← k]
      refine sumTo_congr (fun r hr => ?_)
      obtain ⟨q, hq1, hq2, hq3⟩ := hmem r hr
      unfold wt
      rw [hq3]
      show c q * (len r : Int) = c q * lenS c N K q
      rw [hlen r q hr hq3]
    have e2 : sumTo (fun r => wt X r * (((l' ((X.getD r (0, [])).2.headD 0)).toNat : Nat) : Int)) X.length = sumTo (fun i => c i * l' i) N := by
      have k := hsum (fun i => c i * l' i)
      have k2 : sumTo (fun i => if c i = 0 then 0 else c i * l' i) N = sumTo (fun i => c i * l' i) N := sumTo_congr (fun i _ => by
        by_cases h : c i = 0
        · rw [if_pos h, h, Int.zero_mul]
        · rw [if_neg h])
      rw [← k2, ← k]
      refine sumTo_congr (fun r hr => ?_)
      obtain ⟨q, hq1, hq2, hq3⟩ := hmem r hr
      unfold wt
      rw [hq3]
      have := hl' q hq1 hq2
      show c q * (((l' q).toNat : Nat) : Int) = c q * l' q
      rw [Int.toNat_of_nonneg this.1]
    rw [e1, e2] at low
    exact low
end PackageMath
end Go.Proofs.YtklpiihnbokkkaaGreatDoor

namespace Go.Proofs.YtklpiihnbokkkaaGreatDoor
namespace PackageMath
theorem drop_cons {l:List Coin} {i:Nat} (h:i < l.length):l.drop i=l.getD i (0,[]) :: l.drop (i+1):=by
 rw[List.drop_eq_getElem_cons h,List.getD_eq_getElem?_getD,List.getElem?_eq_getElem h]
 rfl
theorem pairs_drop:∀ (t:Nat) (l:List Coin),(pairs l).drop t=pairs (l.drop (2 * t))
 | 0,l=>by simp
 | t+1,[]=>by simp [pairs]
 | t+1,[a]=>by
  rw[show 2 * (t+1)=2 * t+1+1 by omega]
  simp[pairs]
 | t+1,a :: b :: l=>by
  rw[show 2 * (t+1)=2 * t+1+1 by omega]
  show (pairs l).drop t=pairs (l.drop (2 * t))
  exact pairs_drop t l
def pairOf (a b:Coin):Coin:=(a.1+b.1,a.2 ++ b.2)
theorem pairs_here {l:List Coin} {t:Nat} (h:2 * t+1 < l.length):(pairs l).drop t=pairOf (l.getD (2 * t) (0,[])) (l.getD (2 * t+1) (0,[])) :: (pairs l).drop (t+1):=by
 rw[pairs_drop,pairs_drop,drop_cons (show 2 * t < l.length by omega),drop_cons (show 2 * t+1 < l.length by omega),show 2 * (t+1)=2 * t+1+1 by omega]
 rfl
end PackageMath
end Go.Proofs.YtklpiihnbokkkaaGreatDoor
namespace Go.Proofs.YtklpiihnbokkkaaGreatDoor
namespace PackageMath
end PackageMath
end Go.Proofs.YtklpiihnbokkkaaGreatDoor

namespace Go.Proofs.YtklpiihnbokkkaaGreatDoor
namespace PackageMath
theorem pairs_mem:∀ (l:List Coin) (p:Coin),p∈pairs l→∃ a b,a∈l∧b∈l∧p=pairOf a b
 | [],p,h=>by simp [pairs] at h
 | [_],p,h=>by simp [pairs] at h
 | a :: b :: l,p,h=>by
  rcases List.mem_cons.mp h with rfl | h
  ·exact⟨a,b,by simp,by simp,rfl⟩
  ·obtain⟨c,d,h1,h2,h3⟩:=pairs_mem l p h
   exact⟨c,d,by simp [h1],by simp [h2],h3⟩
def SmallK (k:Nat) (x:Coin):Prop:=0≤x.1∧x.1≤12000 * 2 ^ k∧1≤x.2.length∧x.2.length≤2 ^ k
theorem lists_small {X:List Coin} (h:∀ x∈X,SmallK 0 x):∀ k,∀ x∈lists X k,SmallK k x
 | 0,x,hx=>h x hx
 | k+1,x,hx=>by
  have e:(2:Int) ^ (k+1)=2 ^ k * 2:=Int.pow_succ _ _
  have e2:(2:Nat) ^ (k+1)=2 ^ k * 2:=Nat.pow_succ _ _
  have q:(1:Int)≤2 ^ k:=Int.pow_pos (by omega)
  have q2:1≤(2:Nat) ^ k:=Nat.pow_pos (by omega)
  rcases merge_mem _ _ _ hx with hx | hx
  ·obtain⟨h1,h2,h3,h4⟩:=h x hx
   refine⟨h1,?_,h3,?_⟩
   ·rw[e]
    have:(2:Int) ^ 0=1:=rfl
    omega
   ·rw[e2]
    have:(2:Nat) ^ 0=1:=rfl
    omega
  ·obtain⟨a,b,ha,hb,rfl⟩:=pairs_mem _ _ hx
   obtain⟨a1,a2,a3,a4⟩:=lists_small h k a ha
   obtain⟨b1,b2,b3,b4⟩:=lists_small h k b hb
   refine⟨?_,?_,?_,?_⟩
   ·show 0≤a.1+b.1
    omega
   ·show a.1+b.1≤_
    rw[e]
    omega
   ·show 1≤(a.2 ++ b.2).length
    rw[List.length_append]
    omega
   ·show (a.2 ++ b.2).length≤_
    rw[List.length_append,e2]
    omega
theorem lists_short (X:List Coin):∀ k,(lists X k).length≤2 * X.length
 | 0=>by show X.length≤_; omega
 | k+1=>by
  have:=lists_short X k
  rw[lists_length]
  omega
theorem first_small {c:Nat→Int} {n:Nat} (h:∀ i,i < n→0≤c i∧c i≤12000):∀ x∈firstL c n,SmallK 0 x:=by
 intro x hx
 obtain⟨i,hi,_,rfl⟩:=first_mem n x hx
 have:=h i hi
 exact⟨this.1,by show c i≤12000 * 2 ^ 0; simp; omega,by simp,by simp⟩
theorem smallK_bd {k:Nat} {x:Coin} (hk:k≤14) (h:SmallK k x):0≤x.1∧x.1≤1000000000∧1≤x.2.length∧x.2.length≤1000000:=by
 obtain⟨h1,h2,h3,h4⟩:=h
 have p1:(2:Nat) ^ k≤2 ^ 14:=Nat.pow_le_pow_right (by omega) hk
 have p2:(2:Int) ^ k≤16384:=by
  have e:((2 ^ k:Nat):Int)=(2:Int) ^ k:=by norm_cast
  have:(2:Nat) ^ 14=16384:=rfl
  omega
 have:(2:Nat) ^ 14=16384:=rfl
 omega
theorem lists_syms {X:List Coin} {n:Nat} (h:∀ x∈X,∀ s∈x.2,s < n):∀ k,∀ x∈lists X k,∀ s∈x.2,s < n
 | 0,x,hx=>h x hx
 | k+1,x,hx=>by
  rcases merge_mem _ _ _ hx with hx | hx
  ·exact h x hx
  ·obtain⟨a,b,ha,hb,rfl⟩:=pairs_mem _ _ hx
   intro s hs
   have hs':s∈a.2 ++ b.2:=hs
   rcases List.mem_append.mp hs' with hs | hs
   ·exact lists_syms h k a ha s hs
   ·exact lists_syms h k b hb s hs
theorem first_syms {c:Nat→Int} {n:Nat}:∀ x∈firstL c n,∀ s∈x.2,s < n:=by
 intro x hx s hs
 obtain⟨i,hi,_,rfl⟩:=first_mem n x hx
 have:s=i:=by simpa using hs
 omega
theorem cN_one (p:Nat→Bool):∀ n a,a < n→p a=true→1≤cN p n
 | 0,a,h,_=>by omega
 | n+1,a,h,ha=>by
  show 1≤cN p n+(if p n=true then 1 else 0)
  by_cases e:a=n
  ·subst e
   rw[if_pos ha]
   omega
  ·have:=cN_one p n a (by omega) ha
   omega
theorem cN_two (p:Nat→Bool):∀ n a b,a < n→b < n→a≠b→p a=true→p b=true→2≤cN p n
 | 0,a,b,h,_,_,_,_=>by omega
 | n+1,a,b,ha,hb,hne,h1,h2=>by
  show 2≤cN p n+(if p n=true then 1 else 0)
  by_cases e:a=n
  ·subst e
   have:=cN_one p a b (by omega) h2
   rw[if_pos h1]
   omega
  ·by_cases e2:b=n
   ·subst e2
    have:=cN_one p b a (by omega) h1
    rw[if_pos h2]
    omega
   ·have:=cN_two p n a b (by omega) (by omega) hne h1 h2
    omega
def posN (f:Nat→Int):Nat→Nat:=cN fun i=>decide (f i≠0)
def LimitRight (f:Nat→Int) (n:Nat) (z:Int):Prop:=n≤288∧1≤z∧z≤15∧(∀ i,i < n→0≤f i∧f i≤12000)∧(posN f n:Int)≤2 ^ z.toNat
def limLen (f:Nat→Int) (n:Nat) (z:Int):Nat→Int:=fun i=>if posN f n=0 then 0 else if posN f n=1 then (if f i=0 then 0 else 1) else lenS f n (z.toNat - 1) i
theorem lim_none {f:Nat→Int} {n:Nat} {z:Int} (h:posN f n=0) (i:Nat):(0:Int)=limLen f n z i:=by
 unfold limLen
 rw[if_pos h]
theorem lim_one {f:Nat→Int} {n s:Nat} {z:Int} (h:posN f n=1) (hs:s < n) (hfs:f s≠0) (i:Nat) (hi:i < n):(if i=s then (1:Int) else 0)=limLen f n z i:=by
 have hl:limLen f n z i=if f i=0 then 0 else 1:=by
  unfold limLen
  rw[if_neg (show ¬ posN f n=0 by omega),if_pos h]
 rw[hl]
 by_cases e:i=s
 ·subst e
  rw[if_pos rfl,if_neg hfs]
 ·rw[if_neg e]
  by_cases hz:f i=0
  ·rw[if_pos hz]
  ·exfalso
   have:=cN_two (fun i=>decide (f i≠0)) n i s hi hs e (by simpa using hz) (by simpa using hfs)
   have h':cN (fun i=>decide (f i≠0)) n=1:=h
   omega
theorem lim_more {f:Nat→Int} {n z:Nat} (h:2≤posN f n) (i:Nat):sm (ct i) ((lists (firstL f n) (z - 1)).take (2 * posN f n - 2))=limLen f n (z:Int) i:=by
 unfold limLen
 rw[if_neg (by omega),if_neg (by omega),Int.toNat_natCast]
 unfold lenS
 rw[first_length]
 rfl
end PackageMath
end Go.Proofs.YtklpiihnbokkkaaGreatDoor

namespace Go.Proofs.YtklpiihnbokkkaaGreatDoor
namespace RoomMath
open OutMath CodeMath
def slot (z:Int):Int:=if 0 < z then p2 (15 - z).toNat else 0
theorem room_upd (f:Nat→Int) (k:Nat) (z:Int):∀ n,k < n→room (fun i=>if i=k then z else f i) n=room f n - slot (f k)+slot z
 | 0,h=>absurd h (Nat.not_lt_zero k)
 | n+1,h=>by
  have same:∀ m,m≤k→room (fun i=>if i=k then z else f i) m=room f m:=by
   intro m hm
   induction m with
   | zero=>rfl
   | succ m ih=>
    show room (fun i=>if i=k then z else f i) m+(if 0 < (if m=k then z else f m) then p2 (15 - (if m=k then z else f m)).toNat else 0)=room f m+(if 0 < f m then p2 (15 - f m).toNat else 0)
    rw[ih (by omega),if_neg (show ¬ m=k by omega)]
  show room (fun i=>if i=k then z else f i) n+(if 0 < (if n=k then z else f n) then p2 (15 - (if n=k then z else f n)).toNat else 0)=room f n+(if 0 < f n then p2 (15 - f n).toNat else 0) - slot (f k)+slot z
  by_cases e:n=k
  ·subst e
   rw[same n (Nat.le_refl n),if_pos rfl]
   unfold slot
   omega
  ·rw[room_upd f k z n (by omega),if_neg e]
   omega
def Whole (f:Nat→Int) (n:Nat):Prop:=(∀ i,i < n→1≤f i∧f i≤15)∧room f n=32768
end RoomMath
end Go.Proofs.YtklpiihnbokkkaaGreatDoor
