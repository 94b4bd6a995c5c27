/-
  Texts of the proof, put together.
-/
import Derived.Test.YtklpiihnbokkkaaGreatDoorFk04
namespace Go.Proofs.YtklpiihnbokkkaaGreatDoor
section
namespace BodyMath
open OutMath TokMath StepMath CodeMath HitMath TokLenMath TellMath BlockMath PartMath
section
variable (f1:Nat→Int) (n1:Nat) (f2:Nat→Int) (n2:Nat)
def codeP (f:Nat→Int) (n i:Nat):Part:=(codeOf f n i,(f i).toNat,true)
def symP (x:Bool×Cod):List Part:=[if x.1=true then codeP f2 n2 x.2.1.toNat else codeP f1 n1 x.2.1.toNat,(x.2.2.2,x.2.2.1.toNat,false)]
def symsP (S:List (Bool×Cod)):List Part:=S.flatMap (symP f1 n1 f2 n2)
def tokP (t:Tok):List Part:=
 if t.2.1=0 then [codeP f1 n1 t.1.toNat] else [codeP f1 n1 (LengthCodeOf t.2.1).1.toNat,((LengthCodeOf t.2.1).2.2,(LengthCodeOf t.2.1).2.1.toNat,false),codeP f2 n2 (DistCodeOf t.2.2).1.toNat,((DistCodeOf t.2.2).2.2,(DistCodeOf t.2.2).2.1.toNat,false)]
def toksP (L:List Tok):List Part:=L.flatMap (tokP f1 n1 f2 n2)
def bodyP (L:List Tok):List Part:=toksP f1 n1 f2 n2 L ++ [codeP f1 n1 256]
def bodyBits (L:List Tok):List Int:=partBits (bodyP f1 n1 f2 n2 L)
end
section
variable {f1:Nat→Int} {n1:Nat} {f2:Nat→Int} {n2:Nat}
theorem partBits_cons (p:Part) (l:List Part):partBits (p :: l)=bitsP p ++ partBits l:=rfl
theorem partBits_one (p:Part):partBits [p]=bitsP p:=List.append_nil _
theorem symP_bits (t:Tok):partBits (symsP f1 n1 f2 n2 (symsT t))=partBits (tokP f1 n1 f2 n2 t):=by
 obtain⟨x,y,z⟩:=t
 by_cases hy:y=0
 ·subst hy
  rw[symsT_byte]
  unfold tokP
  rw[if_pos rfl,partBits_one]
  show bitsP (codeP f1 n1 x.toNat) ++ (bitsP (0,0,false) ++ [])=_
  rw[bitsP_none,List.append_nil,List.append_nil]
 ·rw[symsT_rep _ _ hy]
  unfold tokP
  rw[if_neg hy]
  rfl
theorem symsP_app (a b:List (Bool×Cod)):symsP f1 n1 f2 n2 (a ++ b)=symsP f1 n1 f2 n2 a ++ symsP f1 n1 f2 n2 b:=List.flatMap_append
theorem toksP_bits:∀ L:List Tok,partBits (symsP f1 n1 f2 n2 (symsL L))=partBits (toksP f1 n1 f2 n2 L)
 | []=>rfl
 | t :: L=>by
  have e1:symsL (t :: L)=symsT t ++ symsL L:=rfl
  have e2:toksP f1 n1 f2 n2 (t :: L)=tokP f1 n1 f2 n2 t ++ toksP f1 n1 f2 n2 L:=rfl
  rw[e1,e2,symsP_app,partBits_app,partBits_app,symP_bits,toksP_bits L]
theorem progP_bits (L:List Tok):partBits (symsP f1 n1 f2 n2 (symsL L ++ [(false,(256,0,0))]))=bodyBits f1 n1 f2 n2 L:=by
 unfold bodyBits bodyP
 rw[symsP_app,partBits_app,toksP_bits,partBits_app,partBits_one]
 show _ ++ (bitsP (codeP f1 n1 256) ++ (bitsP (0,0,false) ++ []))=_
 rw[bitsP_none,List.append_nil,List.append_nil]
theorem symsP_length:∀ S:List (Bool×Cod),(symsP f1 n1 f2 n2 S).length=2 * S.length
 | []=>rfl
 | x :: S=>by
  show (symP f1 n1 f2 n2 x ++ symsP f1 n1 f2 n2 S).length=_
  rw[List.length_append,symsP_length S,List.length_cons]
  show 2+_=_
  omega
end
structure BodyOk (f1:Nat→Int) (n1:Nat) (f2:Nat→Int) (n2:Nat) (L:List Tok):Prop where
 c1:Coded f1 n1
 e1:256 < n1
 m2:n2≤288
 w2:∀ i,i < n2→0≤f2 i∧f2 i≤15
 right:∀ t∈L,TokRight t
 s1:∀ t∈L,sym1 t < n1
 s2:∀ t∈L,t.2.1≠0→Coded f2 n2∧sym2 t < n2
theorem codeP_right {f:Nat→Int} {n i:Nat} (h:Coded f n) (hi:i < n):Right (codeP f n i):=by
 have h1:=code_lt h hi
 have h2:=h.2.1 i hi
 have h3:=p2_le (show (f i).toNat≤24 by omega)
 have h4:p2 24=16777216:=by decide +kernel
 refine⟨h1.1,?_,?_⟩
 ·show codeOf f n i≤16777216
  omega
 ·show (f i).toNat≤24
  omega
theorem lenCode_small {y:Int} (h:3≤y∧y≤258):(0≤(LengthCodeOf y).2.1∧(LengthCodeOf y).2.1≤6)∧0≤(LengthCodeOf y).2.2∧(LengthCodeOf y).2.2≤258:=by
 unfold LengthCodeOf
 rw[if_pos h]
 unfold lenCode
 split
 ·have hf:=(len_fact (n:=y.toNat) (by omega) (by omega)).1
  have hb:bitsN 4 (findN 3 4 y.toNat 28)≤6:=by unfold bitsN; omega
  simp only []
  omega
 ·simp only []
  omega
theorem distCode_small {z:Int} (h:1≤z∧z≤32768):(0≤(DistCodeOf z).2.1∧(DistCodeOf z).2.1≤14)∧0≤(DistCodeOf z).2.2∧(DistCodeOf z).2.2≤32768:=by
 unfold DistCodeOf
 rw[if_pos h]
 unfold distCode
 have hf:=(dist_fact (n:=z.toNat) (by omega) (by omega)).1
 have hb:bitsN 2 (findN 1 2 z.toNat 30)≤14:=by unfold bitsN; omega
 simp only []
 omega
section
variable {f1:Nat→Int} {n1:Nat} {f2:Nat→Int} {n2:Nat} {L:List Tok}
theorem BodyOk.sym (h:BodyOk f1 n1 f2 n2 L) {t:Tok} (ht:t∈L):∀ x∈symsT t,(0≤x.2.1∧(if x.1=true then Coded f2 n2∧x.2.1.toNat < n2 else x.2.1.toNat < n1))∧(0≤x.2.2.1∧x.2.2.1≤14)∧0≤x.2.2.2∧x.2.2.2≤32768:=by
 intro q hq
 have hT:=h.right t ht
 have hs1:=h.s1 t ht
 have hs2:=h.s2 t ht
 obtain⟨x,y,z⟩:=t
 unfold TokRight at hT
 by_cases hy:y=0
 ·subst hy
  rw[if_pos rfl] at hT
  rw[symsT_byte,List.mem_singleton] at hq
  subst hq
  rw[sym1_byte] at hs1
  refine⟨⟨hT.1.1,?_⟩,by simp only []; omega,by simp only []; omega⟩
  rw[if_neg (by simp)]
  exact hs1
 ·rw[if_neg hy] at hT
  obtain⟨_,hy2,hz2⟩:=hT
  have ha:=len_range (y:=y) hy2
  have hb:=dist_range (z:=z) hz2
  have hc:=lenCode_small (y:=y) hy2
  have hd:=distCode_small (z:=z) hz2
  rw[sym1_rep hy] at hs1
  rw[symsT_rep _ _ hy] at hq
  rcases List.mem_cons.mp hq with rfl | hq
  ·refine⟨⟨by simp only []; omega,?_⟩,by simp only []; omega,by simp only []; omega⟩
   rw[if_neg (by simp)]
   exact hs1
  ·rw[List.mem_singleton] at hq
   subst hq
   refine⟨⟨by simp only []; omega,?_⟩,by simp only []; omega,by simp only []; omega⟩
   rw[if_pos rfl]
   exact hs2 hy
theorem BodyOk.symR (h:BodyOk f1 n1 f2 n2 L) {t:Tok} (ht:t∈L):∀ x∈symsT t,∀ p∈symP f1 n1 f2 n2 x,Right p:=by
 intro x hx p hp
 obtain⟨⟨k0,k1⟩,k2,k3⟩:=h.sym ht x hx
 unfold symP at hp
 rcases List.mem_cons.mp hp with rfl | hp
 ·by_cases hb:x.1=true
  ·rw[if_pos hb] at k1 ⊢
   exact codeP_right k1.1 k1.2
  ·rw[if_neg hb] at k1 ⊢
   exact codeP_right h.c1 k1
 ·rw[List.mem_singleton] at hp
  subst hp
  refine⟨k3.1,?_,?_⟩ <;> simp only [] <;> omega
theorem BodyOk.progR (h:BodyOk f1 n1 f2 n2 L):∀ p∈symsP f1 n1 f2 n2 (symsL L ++ [(false,(256,0,0))]),Right p:=by
 intro p hp
 obtain⟨x,hx,hp⟩:=List.mem_flatMap.mp hp
 rcases List.mem_append.mp hx with hx | hx
 ·obtain⟨t,ht,hx⟩:=List.mem_flatMap.mp hx
  exact h.symR ht x hx p hp
 ·rw[List.mem_singleton] at hx
  subst hx
  unfold symP at hp
  rcases List.mem_cons.mp hp with rfl | hp
  ·rw[if_neg (by simp)]
   exact codeP_right h.c1 h.e1
  ·rw[List.mem_singleton] at hp
   subst hp
   exact⟨by simp,by simp,by simp⟩
end
end BodyMath
end
section
open CodeMath InfMath TokMath StepMath TrimMath TokLenMath BlockMath BodyMath
theorem fixed_body {L:List Tok} (h:∀ t∈L,TokRight t):BodyOk fixed1 288 fixed2 32 L where
 c1:=fixed1_coded
 e1:=by omega
 m2:=by omega
 w2:=fun i hi=>fixed2_coded.2.1 i hi
 right:=h
 s1:=fun t ht=>by have:=(sym1_lt (h t ht)).1; omega
 s2:=fun t ht hy=>by
  refine⟨fixed2_coded,?_⟩
  have hT:=h t ht
  obtain⟨x,y,z⟩:=t
  unfold TokRight at hT
  rw[if_neg hy] at hT
  have:=dist_range (z:=z) hT.2.2
  unfold sym2
  simp only []
  omega
def fixedOut (s:ByteArray) (c:Int) (L:List Tok) (last:Bool):Option (ByteArray×Nat):=
 if TokensRight L then (outSt s c).bind fun o=>bitsOut o (headBits 1 last ++ bodyBits fixed1 288 fixed2 32 L) else none
end
section
namespace PackageMath
abbrev Coin:=Int×List Nat
def sm (φ:Coin→Int):List Coin→Int
 | []=>0
 | x :: l=>φ x+sm φ l
def Addi (φ:Coin→Int):Prop:=∀ a b:Coin,φ (a.1+b.1,a.2 ++ b.2)=φ a+φ b
def pairs:List Coin→List Coin
 | a :: b :: l=>(a.1+b.1,a.2 ++ b.2) :: pairs l
 | _=>[]
def merge:List Coin→List Coin→List Coin
 | [],ys=>ys
 | x :: xs,[]=>x :: xs
 | x :: xs,y :: ys=>if x.1≤y.1 then x :: merge xs (y :: ys) else y :: merge (x :: xs) ys
termination_by xs ys=>xs.length+ys.length
def lists (X:List Coin):Nat→List Coin
 | 0=>X
 | k+1=>merge X (pairs (lists X k))
def Asc:List Coin→Prop
 | []=>True
 | x :: l=>0≤x.1∧(∀ y∈l,x.1≤y.1)∧Asc l
theorem asc_nonneg:∀ {l:List Coin},Asc l→∀ y∈l,0≤y.1
 | [],_,y,hy=>by cases hy
 | x :: l,h,y,hy=>by
  rcases List.mem_cons.mp hy with rfl | hy
  ·exact h.1
  ·exact asc_nonneg h.2.2 y hy
theorem merge_nil_right (xs:List Coin):merge xs []=xs:=by cases xs <;> simp [merge]
theorem merge_cons (x y:Coin) (xs ys:List Coin):merge (x :: xs) (y :: ys)=if x.1≤y.1 then x :: merge xs (y :: ys) else y :: merge (x :: xs) ys:=by
 rw[merge]
theorem merge_length (xs ys:List Coin):(merge xs ys).length=xs.length+ys.length:=by
 induction xs generalizing ys with
 | nil=>simp [merge]
 | cons x xs ih=>
  induction ys with
  | nil=>simp [merge]
  | cons y ys ihy=>
   rw[merge_cons]
   split
   ·simp only [List.length_cons]
    rw[ih]
    simp only [List.length_cons]
    omega
   ·simp only [List.length_cons]
    rw[ihy]
    simp only [List.length_cons]
    omega
theorem merge_mem (xs ys:List Coin) (z:Coin):z∈merge xs ys→z∈xs∨z∈ys:=by
 induction xs generalizing ys with
 | nil=>intro h; simp [merge] at h; exact .inr h
 | cons x xs ih=>
  induction ys with
  | nil=>intro h; simp [merge] at h; exact .inl (by simpa using h)
  | cons y ys ihy=>
   rw[merge_cons]
   split
   ·intro h
    rcases List.mem_cons.mp h with rfl | h
    ·simp
    ·rcases ih (y :: ys) h with h | h
     ·simp[h]
     ·exact .inr h
   ·intro h
    rcases List.mem_cons.mp h with rfl | h
    ·simp
    ·rcases ihy h with h | h
     ·exact .inl h
     ·simp[h]
theorem merge_asc {xs ys:List Coin} (hx:Asc xs) (hy:Asc ys):Asc (merge xs ys):=by
 induction xs generalizing ys with
 | nil=>simpa [merge] using hy
 | cons x xs ih=>
  induction ys with
  | nil=>simpa [merge] using hx
  | cons y ys ihy=>
   rw[merge_cons]
   split
   ·rename_i h
    refine⟨hx.1,fun z hz=>?_,ih hx.2.2 hy⟩
    rcases merge_mem _ _ _ hz with hz | hz
    ·exact hx.2.1 z hz
    ·rcases List.mem_cons.mp hz with rfl | hz
     ·exact h
     ·have:=hy.2.1 z hz; omega
   ·rename_i h
    refine⟨hy.1,fun z hz=>?_,ihy hy.2.2⟩
    rcases merge_mem _ _ _ hz with hz | hz
    ·rcases List.mem_cons.mp hz with rfl | hz
     ·omega
     ·have:=hx.2.1 z hz; omega
    ·exact hy.2.1 z hz
theorem pairs_length:∀ l:List Coin,(pairs l).length=l.length / 2
 | []=>rfl
 | [_]=>by simp [pairs]
 | a :: b :: l=>by
  show (pairs l).length+1=(l.length+1+1) / 2
  rw[pairs_length l]
  omega
theorem pairs_sm {φ:Coin→Int} (h:Addi φ):∀ (l:List Coin) (b:Nat),2 * b≤l.length→sm φ ((pairs l).take b)=sm φ (l.take (2 * b))
 | l,0,_=>by simp [sm]
 | [],b+1,hb=>by simp at hb
 | [_],b+1,hb=>by simp at hb; omega
 | a :: c :: l,b+1,hb=>by
  rw[show 2 * (b+1)=2 * b+1+1 by omega]
  show φ (a.1+c.1,a.2 ++ c.2)+sm φ ((pairs l).take b)=φ a+(φ c+sm φ (l.take (2 * b)))
  rw[h,pairs_sm h l b (by simp at hb; omega)]
  omega
theorem pairs_get:∀ (l:List Coin) (t:Nat) (ht:t < l.length) (hp:t / 2 < (pairs l).length),(∀ y∈l,0≤y.1)→l[t].1≤(pairs l)[t / 2].1
 | [],t,ht,_,_=>by simp at ht
 | [_],t,ht,hp,_=>by simp [pairs] at hp
 | a :: b :: l,0,_,_,h=>by
  have:=h b (by simp)
  show a.1≤a.1+b.1
  omega
 | a :: b :: l,1,_,_,h=>by
  have:=h a (by simp)
  show b.1≤a.1+b.1
  omega
 | a :: b :: l,t+2,ht,hp,h=>by
  have e:(t+2) / 2=t / 2+1:=by omega
  have hp':t / 2 < (pairs l).length:=by
   have h1:(pairs (a :: b :: l)).length=(pairs l).length+1:=rfl
   omega
  have k:=pairs_get l t (by simp at ht; omega) hp' (fun y hy=>h y (by simp [hy]))
  simp only [e,pairs,List.getElem_cons_succ]
  exact k
theorem pairs_mem_ge:∀ (l:List Coin) (z:Int),(∀ y∈l,z≤y.1)→(∀ y∈l,0≤y.1)→∀ p∈pairs l,2 * z≤p.1∧0≤p.1
 | [],_,_,_,p,hp=>by simp [pairs] at hp
 | [_],_,_,_,p,hp=>by simp [pairs] at hp
 | a :: b :: l,z,h,h0,p,hp=>by
  have ha:=h a (by simp)
  have hb:=h b (by simp)
  have ha0:=h0 a (by simp)
  have hb0:=h0 b (by simp)
  rcases List.mem_cons.mp hp with rfl | hp
  ·show 2 * z≤a.1+b.1∧0≤a.1+b.1
   omega
  ·exact pairs_mem_ge l z (fun y hy=>h y (by simp [hy])) (fun y hy=>h0 y (by simp [hy])) p hp
theorem pairs_asc:∀ {l:List Coin},Asc l→Asc (pairs l)
 | [],_=>trivial
 | [_],_=>trivial
 | a :: b :: l,h=>by
  have hb:=h.2.2
  have hab:=h.2.1 b (by simp)
  refine⟨?_,fun p hp=>?_,pairs_asc hb.2.2⟩
  ·show 0≤a.1+b.1
   have:=h.1
   have:=hb.1
   omega
  ·have k:=pairs_mem_ge l b.1 hb.2.1 (asc_nonneg hb.2.2) p hp
   show a.1+b.1≤p.1
   omega
theorem lists_asc {X:List Coin} (h:Asc X):∀ k,Asc (lists X k)
 | 0=>h
 | k+1=>merge_asc h (pairs_asc (lists_asc h k))
theorem lists_length (X:List Coin) (k:Nat):(lists X (k+1)).length=X.length+(lists X k).length / 2:=by
 show (merge X (pairs (lists X k))).length=_
 rw[merge_length,pairs_length]
theorem merge_split (X Y:List Coin):∀ m,m≤X.length+Y.length→∃ a b,a+b=m∧a≤X.length∧b≤Y.length∧(∀ φ,sm φ ((merge X Y).take m)=sm φ (X.take a)+sm φ (Y.take b))∧
  (∀ i (hi:i < X.length),i < a→∃ t,∃ ht:t < (merge X Y).length,t < m∧(merge X Y)[t]=X[i])∧
  (Asc X→∀ j (hj:j < Y.length) i (hi:i < X.length),j < b→X[i].1≤Y[j].1→i < a):=by
 induction X generalizing Y with
 | nil=>
  intro m hm
  refine⟨0,m,by omega,by simp,by simpa using hm,fun φ=>by simp [merge,sm],fun i hi=>by simp at hi,fun _ j hj i hi=>by simp at hi⟩
 | cons x X ih=>
  induction Y with
  | nil=>
   intro m hm
   refine⟨m,0,by omega,by simpa using hm,by simp,fun φ=>by simp [merge,sm],fun i hi h=>?_,fun _ j hj=>by simp at hj⟩
   exact⟨i,by rw [merge_nil_right]; exact hi,h,by simp [merge_nil_right]⟩
  | cons y Y ihy=>
   intro m hm
   rw[merge_cons]
   cases m with
   | zero=>
    refine⟨0,0,rfl,by simp,by simp,fun φ=>by simp [sm],fun i hi h=>by omega,fun _ j hj i hi h=>by omega⟩
   | succ m=>
    by_cases hxy:x.1≤y.1
    ·obtain⟨a,b,h1,h2,h3,h4,h5,h6⟩:=ih (y :: Y) m (by simp at hm ⊢; omega)
     refine⟨a+1,b,by omega,by simp; omega,h3,fun φ=>?_,fun i hi h=>?_,fun hA j hj i hi hjb hle=>?_⟩
     ·rw[if_pos hxy]
      show φ x+sm φ ((merge X (y :: Y)).take m)=φ x+sm φ (X.take a)+_
      rw[h4]
      omega
     ·cases i with
      | zero=>exact⟨0,by rw [if_pos hxy]; simp,by omega,by simp [if_pos hxy]⟩
      | succ i=>
       obtain⟨t,ht,htm,he⟩:=h5 i (by simp at hi; omega) (by omega)
       exact⟨t+1,by rw [if_pos hxy]; simp; omega,by omega,by simpa [if_pos hxy] using he⟩
     ·cases i with
      | zero=>omega
      | succ i=>
       have:=h6 hA.2.2 j hj i (by simp at hi; omega) hjb (by simpa using hle)
       omega
    ·obtain⟨a,b,h1,h2,h3,h4,h5,h6⟩:=ihy m (by simp at hm ⊢; omega)
     refine⟨a,b+1,by omega,h2,by simp; omega,fun φ=>?_,fun i hi h=>?_,fun hA j hj i hi hjb hle=>?_⟩
     ·rw[if_neg hxy]
      show φ y+sm φ ((merge (x :: X) Y).take m)=_+(φ y+sm φ (Y.take b))
      rw[h4]
      omega
     ·obtain⟨t,ht,htm,he⟩:=h5 i hi h
      exact⟨t+1,by rw [if_neg hxy]; simp; omega,by omega,by simpa [if_neg hxy] using he⟩
     ·cases j with
      | zero=>
       have hle':(x :: X)[i].1≤y.1:=by simpa using hle
       have hx:x.1≤(x :: X)[i].1:=by
        cases i with
        | zero=>simp
        | succ i=>
         have hi':i < X.length:=by simp at hi; omega
         have:=hA.2.1 (X[i]'hi') (List.getElem_mem _)
         simpa using this
       omega
      | succ j=>exact h6 hA j (by simp at hj; omega) i hi (by omega) (by simpa using hle)
def w1:Coin→Int:=fun x=>x.1
theorem addi_w1:Addi w1:=fun _ _=>rfl
def sumTo (g:Nat→Int):Nat→Int
 | 0=>0
 | k+1=>sumTo g k+g k
theorem sumTo_congr {g g':Nat→Int}:∀ {k:Nat},(∀ i,i < k→g i=g' i)→sumTo g k=sumTo g' k
 | 0,_=>rfl
 | k+1,h=>by
  show sumTo g k+g k=sumTo g' k+g' k
  rw[sumTo_congr (fun i hi=>h i (by omega)),h k (by omega)]
theorem sumTo_le {g g':Nat→Int}:∀ {k:Nat},(∀ i,i < k→g i≤g' i)→sumTo g k≤sumTo g' k
 | 0,_=>Int.le_refl _
 | k+1,h=>by
  have h1:=sumTo_le (k:=k) (fun i hi=>h i (by omega))
  have h2:=h k (by omega)
  show sumTo g k+g k≤sumTo g' k+g' k
  omega
theorem sumTo_add (g g':Nat→Int):∀ k,sumTo (fun i=>g i+g' i) k=sumTo g k+sumTo g' k
 | 0=>rfl
 | k+1=>by
  show sumTo (fun i=>g i+g' i) k+(g k+g' k)=sumTo g k+g k+(sumTo g' k+g' k)
  rw[sumTo_add g g' k]
  omega
theorem sumTo_zero:∀ k,sumTo (fun _=>0) k=0
 | 0=>rfl
 | k+1=>by
  show sumTo (fun _=>0) k+0=0
  rw[sumTo_zero k]
  rfl
theorem sumTo_swap (g:Nat→Nat→Int) (n:Nat):∀ k,sumTo (fun j=>sumTo (fun r=>g j r) n) k=sumTo (fun r=>sumTo (fun j=>g j r) k) n
 | 0=>by
  show 0=sumTo (fun _=>0) n
  rw[sumTo_zero]
 | k+1=>by
  show sumTo (fun j=>sumTo (fun r=>g j r) n) k+sumTo (fun r=>g k r) n=sumTo (fun r=>sumTo (fun j=>g j r) k+g k r) n
  rw[sumTo_swap g n k,sumTo_add]
theorem sm_take (φ:Coin→Int):∀ (l:List Coin) (a:Nat),a≤l.length→sm φ (l.take a)=sumTo (fun r=>φ (l.getD r (0,[]))) a
 | l,0,_=>by simp [sm,sumTo]
 | l,a+1,h=>by
  have ih:=sm_take φ l a (by omega)
  show _=sumTo (fun r=>φ (l.getD r (0,[]))) a+φ (l.getD a (0,[]))
  rw[← ih]
  have e:∀ (l:List Coin) (a:Nat),a < l.length→sm φ (l.take (a+1))=sm φ (l.take a)+φ (l.getD a (0,[])):=by
   intro l
   induction l with
   | nil=>intro a ha; simp at ha
   | cons x l ihl=>
    intro a ha
    cases a with
    | zero=>simp [sm]
    | succ a=>
     show φ x+sm φ (l.take (a+1))=φ x+sm φ (l.take a)+φ (l.getD a (0,[]))
     rw[ihl a (by simp at ha; omega)]
     omega
  exact e l a (by omega)
theorem levels {X:List Coin} (hX:Asc X):∀ k m,m≤(lists X k).length→∃ a:Nat→Nat,(∀ φ,Addi φ→sm φ ((lists X k).take m)=sumTo (fun j=>sm φ (X.take (a j))) (k+1))∧
  sumTo (fun j=>(a j:Int) * 2 ^ j) (k+1)=(m:Int) * 2 ^ k∧(∀ j,j≤k→a j≤X.length)∧(∀ j,j < k→a j≤a (j+1))∧
  (∀ i (hi:i < X.length),i < a k→∃ t,∃ ht:t < (lists X k).length,t < m∧X[i].1≤(lists X k)[t].1)
 | 0,m,hm=>by
  refine⟨fun _=>m,fun φ _=>?_,?_,fun _ _=>hm,fun j hj=>by omega,fun i hi h=>⟨i,hi,h,Int.le_refl _⟩⟩
  ·show sm φ (X.take m)=0+sm φ (X.take m)
   omega
  ·show 0+(m:Int) * 2 ^ 0=_
   omega
 | k+1,m,hm=>by
  have hm':m≤X.length+(pairs (lists X k)).length:=by
   rw[← merge_length]; exact hm
  obtain⟨a,b,h1,h2,h3,h4,h5,h6⟩:=merge_split X (pairs (lists X k)) m hm'
  have hb2:2 * b≤(lists X k).length:=by
   rw[pairs_length] at h3
   omega
  obtain⟨a',g1,g2,g3,g4,g5⟩:=levels hX k (2 * b) hb2
  refine⟨fun j=>if j=k+1 then a else a' j,fun φ hφ=>?_,?_,fun j hj=>?_,fun j hj=>?_,fun i hi h=>?_⟩
  ·show sm φ ((merge X (pairs (lists X k))).take m)=sumTo (fun j=>sm φ (X.take (if j=k+1 then a else a' j))) (k+1)+sm φ (X.take (if k+1=k+1 then a else a' (k+1)))
   have e:sumTo (fun j=>sm φ (X.take (if j=k+1 then a else a' j))) (k+1)=sumTo (fun j=>sm φ (X.take (a' j))) (k+1):=sumTo_congr (fun j hj=>by
    show sm φ (X.take (if j=k+1 then a else a' j))=_
    rw[if_neg (by omega)])
   rw[h4,if_pos rfl,pairs_sm hφ _ _ hb2,g1 φ hφ,e]
   omega
  ·show sumTo (fun j=>((if j=k+1 then a else a' j:Nat):Int) * 2 ^ j) (k+1)+((if k+1=k+1 then a else a' (k+1):Nat):Int) * 2 ^ (k+1)=_
   have e:sumTo (fun j=>((if j=k+1 then a else a' j:Nat):Int) * 2 ^ j) (k+1)=sumTo (fun j=>(a' j:Int) * 2 ^ j) (k+1):=sumTo_congr (fun j hj=>by
    show ((if j=k+1 then a else a' j:Nat):Int) * 2 ^ j=_
    rw[if_neg (by omega)])
   rw[if_pos rfl,e,g2,← h1]
   rw[Int.pow_succ]
   generalize (2:Int) ^ k=q
   have e1:((2 * b:Nat):Int) * q=(b:Int) * (q * 2):=by
    rw[show ((2 * b:Nat):Int)=(b:Int) * 2 by omega,Int.mul_assoc,Int.mul_comm 2 q]
   have e2:((a+b:Nat):Int) * (q * 2)=(a:Int) * (q * 2)+(b:Int) * (q * 2):=by
    rw[show ((a+b:Nat):Int)=(a:Int)+(b:Int) by omega,Int.add_mul]
   omega
  ·show (if j=k+1 then a else a' j)≤_
   split
   ·exact h2
   ·exact g3 j (by omega)
  ·show (if j=k+1 then a else a' j)≤(if j+1=k+1 then a else a' (j+1))
   rw[if_neg (by omega)]
   split
   ·obtain rfl:j=k:=by omega
    by_cases hz:a' j=0
    ·omega
    ·have hlast:a' j - 1 < X.length:=by have:=g3 j (by omega); omega
     obtain⟨t,ht,htm,hle⟩:=g5 (a' j - 1) hlast (by omega)
     have htb:t / 2 < (pairs (lists X j)).length:=by omega
     have hpg:=pairs_get (lists X j) t ht htb (asc_nonneg (lists_asc hX j))
     have:=h6 hX (t / 2) htb (a' j - 1) hlast (by omega) (Int.le_trans hle hpg)
     omega
   ·exact g4 j (by omega)
  ·have h':i < a:=by simpa using h
   obtain⟨t,ht,htm,he⟩:=h5 i hi h'
   exact⟨t,ht,htm,by show X[i].1≤(merge X (pairs (lists X k)))[t].1; rw [he]; exact Int.le_refl _⟩
theorem lists_long (X:List Coin):∀ k,(X.length:Int) * (2 ^ (k+1) - 1) < (((lists X k).length:Int)+1) * 2 ^ k
 | 0=>by
  show (X.length:Int) * (2 ^ 1 - 1) < ((X.length:Int)+1) * 1
  omega
 | k+1=>by
  have ih:=lists_long X k
  rw[lists_length]
  generalize (lists X k).length=l at ih ⊢
  have e1:(2:Int) ^ (k+1)=2 ^ k * 2:=Int.pow_succ _ _
  have e2:(2:Int) ^ (k+1+1)=2 ^ k * 2 * 2:=by rw [Int.pow_succ,e1]
  have hq:(0:Int) < 2 ^ k:=Int.pow_pos (by omega)
  rw[e1] at ih
  rw[e2,e1]
  generalize (2:Int) ^ k=q at ih hq ⊢
  generalize X.length=n at ih ⊢
  have k1:((l:Int)+1) * q≤(((l / 2:Nat):Int)+1) * (q * 2):=by
   have:((l:Int)+1)≤(((l / 2:Nat):Int)+1) * 2:=by omega
   have k2:=Int.mul_le_mul_of_nonneg_right this (Int.le_of_lt hq)
   rw[Int.mul_assoc,Int.mul_comm 2 q] at k2
   exact k2
  have k3:(((n+l / 2:Nat):Int)+1) * (q * 2)=(n:Int) * (q * 2)+(((l / 2:Nat):Int)+1) * (q * 2):=by
   rw[← Int.add_mul,show ((n+l / 2:Nat):Int)+1=(n:Int)+(((l / 2:Nat):Int)+1) by omega]
  have k4:(n:Int) * (q * 2 * 2 - 1)=(n:Int) * (q * 2)+(n:Int) * (q * 2 - 1):=by
   rw[← Int.mul_add,show q * 2 * 2 - 1=q * 2+(q * 2 - 1) by omega]
  omega
theorem sm_next {l:List Coin} (h:Asc l) (z:Int) (hz:∀ y∈l,z≤y.1):∀ b,b < l.length→sm w1 (l.take b)+z≤sm w1 (l.take (b+1)):=by
 intro b hb
 induction l generalizing b with
 | nil=>simp at hb
 | cons x l ih=>
  cases b with
  | zero=>
   have:=hz x (by simp)
   simp[sm,w1]
   omega
  | succ b=>
   have:=ih h.2.2 (fun y hy=>hz y (by simp [hy])) b (by simp at hb; omega)
   show w1 x+sm w1 (l.take b)+z≤w1 x+sm w1 (l.take (b+1))
   omega
theorem merge_le {X Y:List Coin} (hX:Asc X) (hY:Asc Y):∀ a b,a≤X.length→b≤Y.length→sm w1 ((merge X Y).take (a+b))≤sm w1 (X.take a)+sm w1 (Y.take b):=by
 induction X generalizing Y with
 | nil=>
  intro a b ha hb
  have:a=0:=by simpa using ha
  subst this
  simp[merge,sm]
 | cons x X ih=>
  induction Y with
  | nil=>
   intro a b ha hb
   have:b=0:=by simpa using hb
   subst this
   simp[merge,sm]
  | cons y Y ihy=>
   intro a b ha hb
   rw[merge_cons]
   by_cases hxy:x.1≤y.1
   ·rw[if_pos hxy]
    cases a with
    | succ a=>
     have k:=ih hX.2.2 hY a b (by simp at ha; omega) hb
     rw[show a+1+b=a+b+1 by omega]
     show w1 x+sm w1 ((merge X (y :: Y)).take (a+b))≤w1 x+sm w1 (X.take a)+_
     omega
    | zero=>
     cases b with
     | zero=>simp [sm]
     | succ b=>
      have k:=ih hX.2.2 hY 0 b (by omega) (by omega)
      have z:=sm_next hY x.1 (fun u hu=>by
       rcases List.mem_cons.mp hu with rfl | hu
       ·exact hxy
       ·have:=hY.2.1 u hu; omega) b (by omega)
      rw[show 0+(b+1)=0+b+1 by omega]
      show w1 x+sm w1 ((merge X (y :: Y)).take (0+b))≤0+sm w1 ((y :: Y).take (b+1))
      have e:sm w1 (X.take 0)=0:=by simp [sm]
      have e2:w1 x=x.1:=rfl
      omega
   ·rw[if_neg hxy]
    cases b with
    | succ b=>
     have k:=ihy hY.2.2 a b ha (by simp at hb; omega)
     rw[show a+(b+1)=a+b+1 by omega]
     show w1 y+sm w1 ((merge (x :: X) Y).take (a+b))≤_+(w1 y+sm w1 (Y.take b))
     omega
    | zero=>
     cases a with
     | zero=>simp [sm]
     | succ a=>
      have k:=ihy hY.2.2 a 0 (by omega) (by omega)
      have z:=sm_next hX y.1 (fun u hu=>by
       rcases List.mem_cons.mp hu with rfl | hu
       ·omega
       ·have:=hX.2.1 u hu; omega) a (by omega)
      rw[show a+1+0=a+0+1 by omega]
      show w1 y+sm w1 ((merge (x :: X) Y).take (a+0))≤sm w1 ((x :: X).take (a+1))+0
      have e:sm w1 (Y.take 0)=0:=by simp [sm]
      have e2:w1 y=y.1:=rfl
      omega
end PackageMath
end
end Go.Proofs.YtklpiihnbokkkaaGreatDoor
