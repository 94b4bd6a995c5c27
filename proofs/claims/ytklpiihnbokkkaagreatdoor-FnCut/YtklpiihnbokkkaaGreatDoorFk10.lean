/-
  Texts of the proof, put together.
-/
import Derived.Test.YtklpiihnbokkkaaGreatDoorFk07
namespace Go.Proofs.YtklpiihnbokkkaaGreatDoor
section
namespace StandMath
open OutMath CodeMath TakeMath HitMath WayMath StepMath TokMath InfMath PutMath TokLenMath BlockMath PartMath BodyMath
def Stands (s:ByteArray) (p:Nat) (bs:List Int):Prop:=p+bs.length≤8 * s.size∧∀ i,i < bs.length→bit s (p+i)=bs.getD i 0
section
variable {s:ByteArray} {p:Nat}
theorem Stands.left {a b:List Int} (h:Stands s p (a ++ b)):Stands s p a:=by
 have hl:(a ++ b).length=a.length+b.length:=List.length_append
 refine⟨by have:=h.1; omega,fun i hi=>?_⟩
 rw[h.2 i (by omega),List.getD_eq_getElem?_getD,List.getD_eq_getElem?_getD,List.getElem?_append_left hi]
theorem Stands.right {a b:List Int} (h:Stands s p (a ++ b)):Stands s (p+a.length) b:=by
 have hl:(a ++ b).length=a.length+b.length:=List.length_append
 refine⟨by have:=h.1; omega,fun i hi=>?_⟩
 rw[Nat.add_assoc,h.2 (a.length+i) (by omega),List.getD_eq_getElem?_getD,List.getD_eq_getElem?_getD,List.getElem?_append_right (by omega),Nat.add_sub_cancel_left]
theorem stands_num {x:Int} {n:Nat} (h:Stands s p (pieceBits x n false)) (h0:0≤x) (h1:x < p2 n):num s p n=x:=by
 have e:=BitsMath.num_of s p x n (fun i hi=>by
  rw[h.2 i (by rw [pieceBits_length]; exact hi),pieceBits_getD _ _ _ hi]
  rfl)
 rw[e]
 exact Int.emod_eq_of_lt h0 h1
theorem stands_take {x:Int} {n:Nat} (h:Stands s p (pieceBits x n false)) (h0:0≤x) (h1:x < p2 n):takeE s p n=.ok (x,p+n):=by
 have hl:=h.1
 rw[pieceBits_length] at hl
 unfold takeE
 rw[if_pos hl,stands_num h h0 h1]
theorem stands_hi {x:Int} {n:Nat} (h:Stands s p (pieceBits x n true)) (h0:0≤x) (h1:x < p2 n):∀ k,k≤n→hi s p k=x / p2 (n - k)
 | 0,_=>by
  show (0:Int)=x / p2 n
  exact (Int.ediv_eq_zero_of_lt h0 h1).symm
 | k+1,hk=>by
  show 2 * hi s p k+bit s (p+k)=_
  rw[stands_hi h h0 h1 k (by omega),h.2 k (by rw [pieceBits_length]; omega),pieceBits_getD _ _ _ (show k < n by omega)]
  exact BitsMath.code_step x n k (by omega)
theorem stands_sym {f:Nat→Int} {n i:Nat} (hG:Coded f n) (hi':i < n) (hf:1≤f i) (h:Stands s p (bitsP (codeP f n i))):symE s f n p=.ok (i,p+(f i).toNat):=by
 have hc:=code_lt hG hi'
 have h2:Stands s p (pieceBits (codeOf f n i) (f i).toNat true):=h
 have hl:=h2.1
 rw[pieceBits_length] at hl
 have hh:=stands_hi h2 hc.1 hc.2 (f i).toNat (Nat.le_refl _)
 rw[Nat.sub_self,show p2 0=1 by decide +kernel,Int.ediv_one] at hh
 have hit:Hit f n s p i (f i).toNat:=⟨hi',by omega,by omega,hh.symm,hl⟩
 unfold symE
 rw[symW_hit hit,if_pos rfl]
end
theorem len_read {y:Int} (h3:3≤y) (h:y≤258):∃ k:Nat,(LengthCodeOf y).1=(k:Int)∧257≤k∧k≤285∧(lenBits k).1=(LengthCodeOf y).2.1.toNat∧((lenBits k).2:Int)+(LengthCodeOf y).2.2=y∧0≤(LengthCodeOf y).2.2∧(LengthCodeOf y).2.2 < p2 (LengthCodeOf y).2.1.toNat:=by
 obtain⟨h1,h2,h4,h5,h6,h7,_⟩:=len_back h3 h
 obtain⟨k,hk⟩:=Int.eq_ofNat_of_zero_le (show 0≤(LengthCodeOf y).1 by omega)
 refine⟨k,hk,by omega,by omega,?_,?_,h2,h4⟩
 ·unfold LengthCodeOf
  obtain⟨m,rfl⟩:=Int.eq_ofNat_of_zero_le (show 0≤y by omega)
  rw[if_pos ⟨h3,h⟩,Int.toNat_natCast]
  unfold LengthCodeOf at hk
  rw[if_pos ⟨h3,h⟩,Int.toNat_natCast] at hk
  show _=(((lenCode m).2.1:Nat):Int).toNat
  rw[Int.toNat_natCast]
  have hk':(lenCode m).1=k:=by
   have:(((lenCode m).1:Nat):Int)=(k:Int):=hk
   omega
  rw[← hk']
  unfold lenCode
  split
  ·rename_i hlt
   obtain⟨f1,_,_⟩:=len_fact (show 3≤m by omega) hlt
   show (lenBits (257+findN 3 4 m 28)).1=bitsN 4 (findN 3 4 m 28)
   unfold lenBits
   rw[if_neg (by omega),Nat.add_sub_cancel_left]
  ·rfl
 ·unfold LengthOfR at h1
  rw[hk,Int.toNat_natCast] at h1
  split at h1
  ·exact (Prod.mk.inj h1).1
  ·cases (Prod.mk.inj h1).2
theorem dist_read {z:Int} (h1:1≤z) (h:z≤32768):∃ k:Nat,(DistCodeOf z).1=(k:Int)∧k≤29∧(distBits k).1=(DistCodeOf z).2.1.toNat∧((distBits k).2:Int)+(DistCodeOf z).2.2=z∧0≤(DistCodeOf z).2.2∧(DistCodeOf z).2.2 < p2 (DistCodeOf z).2.1.toNat:=by
 obtain⟨e1,h2,h4,h5,h6,h7,_⟩:=dist_back h1 h
 obtain⟨k,hk⟩:=Int.eq_ofNat_of_zero_le h5
 refine⟨k,hk,by omega,?_,?_,h2,h4⟩
 ·unfold DistCodeOf
  obtain⟨m,rfl⟩:=Int.eq_ofNat_of_zero_le (show 0≤z by omega)
  rw[if_pos ⟨h1,h⟩,Int.toNat_natCast]
  unfold DistCodeOf at hk
  rw[if_pos ⟨h1,h⟩,Int.toNat_natCast] at hk
  show _=(((distCode m).2.1:Nat):Int).toNat
  rw[Int.toNat_natCast]
  have hk':(distCode m).1=k:=by
   have:(((distCode m).1:Nat):Int)=(k:Int):=hk
   omega
  rw[← hk']
  rfl
 ·unfold DistOfR at e1
  rw[hk,Int.toNat_natCast] at e1
  split at e1
  ·exact (Prod.mk.inj e1).1
  ·cases (Prod.mk.inj e1).2
section
variable {s:ByteArray} {most:Nat} {f1:Nat→Int} {n1:Nat} {f2:Nat→Int} {n2:Nat}
def Told (f1 f2:Nat→Int) (L:List Tok):Prop:=1≤f1 256∧∀ t∈L,1≤f1 (sym1 t)∧(t.2.1≠0→1≤f2 (sym2 t))
theorem bodyBits_cons (t:Tok) (R:List Tok):bodyBits f1 n1 f2 n2 (t :: R)=partBits (tokP f1 n1 f2 n2 t) ++ bodyBits f1 n1 f2 n2 R:=by
 have e:bodyP f1 n1 f2 n2 (t :: R)=tokP f1 n1 f2 n2 t ++ bodyP f1 n1 f2 n2 R:=by
  show (tokP f1 n1 f2 n2 t ++ toksP f1 n1 f2 n2 R) ++ _=_
  rw[List.append_assoc]
  rfl
 unfold bodyBits
 rw[e,partBits_app]
theorem symbols_stand:∀ (L:List Tok) (O F:List Int) (p m:Nat),run O L=some F→F.length≤most→Told f1 f2 L→BodyOk f1 n1 f2 n2 L→Stands s p (bodyBits f1 n1 f2 n2 L)→L.length < m→symbolsF s most f1 n1 f2 n2 m p O=.ok (F,p+(bodyBits f1 n1 f2 n2 L).length)
 | [],O,F,p,0,_,_,_,_,_,hm=>by simp at hm
 | [],O,F,p,m+1,hr,_,hT,hB,hS,_=>by
  cases hr
  have e:bodyBits f1 n1 f2 n2 []=bitsP (codeP f1 n1 256):=by
   show partBits ([] ++ [codeP f1 n1 256])=_
   rw[List.nil_append,partBits_one]
  rw[e] at hS ⊢
  have h1:=stands_sym hB.c1 hB.e1 hT.1 hS
  unfold symbolsF
  rw[h1]
  simp only [if_true]
  rw[bitsP_length]
  rfl
 | t :: R,O,F,p,0,_,_,_,_,_,hm=>by simp at hm
 | t :: R,O,F,p,m+1,hr,hl,hT,hB,hS,hm=>by
  have hB':BodyOk f1 n1 f2 n2 R:=⟨hB.c1,hB.e1,hB.m2,hB.w2,fun u hu=>hB.right u (List.mem_cons_of_mem _ hu),fun u hu=>hB.s1 u (List.mem_cons_of_mem _ hu),fun u hu=>hB.s2 u (List.mem_cons_of_mem _ hu)⟩
  have hT':Told f1 f2 R:=⟨hT.1,fun u hu=>hT.2 u (List.mem_cons_of_mem _ hu)⟩
  have hm':R.length < m:=by rw [List.length_cons] at hm; omega
  rw[bodyBits_cons] at hS ⊢
  unfold run at hr
  split at hr
  ·rename_i hq
   obtain⟨M,hM,hM1,_⟩:=app_pre hq.1 O
   obtain⟨M',hF,_⟩:=run_grow hr
   have hlen:O.length+M.length≤most:=by
    rw[hF,hM,List.length_append,List.length_append] at hl
    omega
   have ht:=hT.2 t (List.mem_cons_self)
   have hs1:=hB.s1 t (List.mem_cons_self)
   have hs2:=hB.s2 t (List.mem_cons_self)
   obtain⟨x,y,z⟩:=t
   have hTR:=hq.1
   unfold TokRight at hTR
   by_cases hy:y=0
   ·subst hy
    rw[if_pos rfl] at hTR
    obtain⟨⟨hx0,hx1⟩,hz⟩:=hTR
    simp only [] at hx0 hx1 hz
    obtain⟨xn,rfl⟩:=Int.eq_ofNat_of_zero_le hx0
    have e1:sym1 ((xn:Int),0,z)=xn:=by
     unfold sym1
     rw[if_pos rfl]
     exact Int.toNat_natCast xn
    rw[e1] at ht hs1
    have e2:partBits (tokP f1 n1 f2 n2 ((xn:Int),0,z))=bitsP (codeP f1 n1 xn):=by
     unfold tokP
     rw[if_pos rfl,partBits_one]
     show bitsP (codeP f1 n1 ((xn:Int)).toNat)=_
     rw[Int.toNat_natCast]
    rw[e2] at hS ⊢
    have h1:=stands_sym hB.c1 hs1 ht.1 hS.left
    have h2:=symbols_stand R (tokApp O ((xn:Int),0,z)) F (p+(f1 xn).toNat) m hr hl hT' hB' (by have:=hS.right; rw [bitsP_length] at this; exact this) hm'
    have e3:tokApp O ((xn:Int),0,z)=O ++ [(xn:Int)]:=if_pos rfl
    rw[e3] at h2
    unfold symbolsF
    rw[h1]
    simp only []
    rw[if_neg (by omega),if_pos (by omega),if_neg (by omega),h2,List.length_append,bitsP_length]
    show Except.ok (F,p+(f1 xn).toNat+_)=Except.ok (F,p+((f1 xn).toNat+_))
    rw[Nat.add_assoc]
   ·rw[if_neg hy] at hTR
    obtain⟨hx,hy2,hz2⟩:=hTR
    simp only [] at hx hy2 hz2
    obtain⟨kl,a1,a2,a3,a4,a5,a6,a7⟩:=len_read hy2.1 hy2.2
    obtain⟨kd,b1,b3,b4,b5,b6,b7⟩:=dist_read hz2.1 hz2.2
    have e1:sym1 (x,y,z)=kl:=by
     unfold sym1
     rw[if_neg hy]
     show (LengthCodeOf y).1.toNat=kl
     rw[a1,Int.toNat_natCast]
    have e1':sym2 (x,y,z)=kd:=by
     unfold sym2
     show (DistCodeOf z).1.toNat=kd
     rw[b1,Int.toNat_natCast]
    rw[e1,e1'] at ht
    rw[e1] at hs1
    rw[e1'] at hs2
    have e2:partBits (tokP f1 n1 f2 n2 (x,y,z))=bitsP (codeP f1 n1 kl) ++ (pieceBits (LengthCodeOf y).2.2 (LengthCodeOf y).2.1.toNat false ++ (bitsP (codeP f2 n2 kd) ++ pieceBits (DistCodeOf z).2.2 (DistCodeOf z).2.1.toNat false)):=by
     unfold tokP
     rw[if_neg hy]
     show bitsP (codeP f1 n1 (LengthCodeOf y).1.toNat) ++ (pieceBits _ _ false ++ (bitsP (codeP f2 n2 (DistCodeOf z).1.toNat) ++ (pieceBits _ _ false ++ [])))=_
     rw[a1,b1,Int.toNat_natCast,Int.toNat_natCast,List.append_nil]
    rw[e2] at hS ⊢
    obtain⟨c2,hd2⟩:=hs2 hy
    have h1:=stands_sym hB.c1 hs1 ht.1 hS.left.left
    have q2:=hS.left.right.left
    rw[bitsP_length] at q2
    have q2':Stands s (p+(f1 kl).toNat) (pieceBits (LengthCodeOf y).2.2 (LengthCodeOf y).2.1.toNat false):=q2
    have h2:=stands_take q2' a6 a7
    have q3:=hS.left.right.right.left
    rw[bitsP_length,pieceBits_length] at q3
    have q3':Stands s (p+(f1 kl).toNat+(LengthCodeOf y).2.1.toNat) (bitsP (codeP f2 n2 kd)):=q3
    have h3:=stands_sym c2 hd2 (ht.2 hy) q3'
    have q4:=hS.left.right.right.right
    rw[bitsP_length,bitsP_length,pieceBits_length] at q4
    have q4':Stands s (p+(f1 kl).toNat+(LengthCodeOf y).2.1.toNat+(f2 kd).toNat) (pieceBits (DistCodeOf z).2.2 (DistCodeOf z).2.1.toNat false):=q4
    have h4:=stands_take q4' b6 b7
    have hlen2:(bitsP (codeP f1 n1 kl) ++ (pieceBits (LengthCodeOf y).2.2 (LengthCodeOf y).2.1.toNat false ++ (bitsP (codeP f2 n2 kd) ++ pieceBits (DistCodeOf z).2.2 (DistCodeOf z).2.1.toNat false))).length=(f1 kl).toNat+((LengthCodeOf y).2.1.toNat+((f2 kd).toNat+(DistCodeOf z).2.1.toNat)):=by
     rw[List.length_append,List.length_append,List.length_append,bitsP_length,bitsP_length,pieceBits_length,pieceBits_length]
     rfl
    have q5:=hS.right
    rw[hlen2] at q5
    have h5:=symbols_stand R (tokApp O (x,y,z)) F _ m hr hl hT' hB' q5 hm'
    have e3:tokApp O (x,y,z)=copyN z.toNat y.toNat O:=if_neg hy
    have hMl:M.length=y.toNat:=by
     have h9:=copy_length z.toNat y.toNat O
     rw[← e3,hM,List.length_append] at h9
     omega
    have hq2:z≤(O.length:Int):=hq.2
    rw[e3] at h5
    unfold symbolsF
    rw[h1]
    simp only []
    rw[if_neg (by omega),if_neg (by omega),if_neg (by omega),a4,h2]
    simp only []
    rw[h3]
    simp only []
    rw[if_neg (by omega),b4,h4]
    simp only []
    rw[b5,a5,if_neg (by omega),if_neg (by omega),List.length_append,hlen2]
    rw[show p+(f1 kl).toNat+(LengthCodeOf y).2.1.toNat+(f2 kd).toNat+(DistCodeOf z).2.1.toNat=p+((f1 kl).toNat+((LengthCodeOf y).2.1.toNat+((f2 kd).toNat+(DistCodeOf z).2.1.toNat))) by omega,h5]
    rw[Nat.add_assoc]
  ·cases hr
end
end StandMath
end
section
namespace StandMath
open OutMath CodeMath TakeMath HitMath WayMath StepMath TokMath InfMath PutMath TokLenMath TrimMath BlockMath PartMath BodyMath PackageMath
section
variable {s:ByteArray}
theorem stands_bytes:∀ (ys:List Int) (q:Nat),(∀ y∈ys,0≤y∧y < 256)→Stands s q (byteBits ys)→bytesAt s q ys.length=ys
 | [],_,_,_=>rfl
 | y :: ys,q,hB,h=>by
  have h0:=hB y (List.mem_cons_self)
  have hS:Stands s q (pieceBits y 8 false ++ byteBits ys):=h
  have h1:=stands_num hS.left h0.1 (by rw [show p2 8=256 by decide +kernel]; exact h0.2)
  have hR:=hS.right
  rw[pieceBits_length] at hR
  have h2:=stands_bytes ys (q+8) (fun z hz=>hB z (List.mem_cons_of_mem _ hz)) hR
  unfold bytesAt at h2 ⊢
  rw[List.length_cons,List.range_succ_eq_map,List.map_cons,List.map_map]
  rw[show q+8 * 0=q from rfl,h1]
  congr 1
  refine Eq.trans ?_ h2
  apply List.map_congr_left
  intro i _
  show num s (q+8 * (i+1)) 8=num s (q+8+8 * i) 8
  rw[show q+8 * (i+1)=q+8+8 * i by omega]
theorem numsOf_bytes (t:ByteArray):∀ y∈numsOf t,0≤y∧y < 256:=by
 intro y hy
 obtain⟨b,_,rfl⟩:=List.mem_map.mp hy
 have:=UInt8.toNat_lt b
 omega
theorem whole_fill (p:Nat):wholeAt p=p+(fillBits p).length:=by
 rw[fillBits_length]
 unfold wholeAt
 omega
theorem stored_stand {most p:Nat} {t:ByteArray} {O:List Int} (ht:t.size≤2600) (hO:O.length+t.size≤most) (hS:Stands s p (storedBits p t)):storedE s most p O=.ok (O ++ numsOf t,p+(storedBits p t).length):=by
 unfold storedBits at hS ⊢
 have hw:=whole_fill p
 have h1:=hS.right
 rw[← hw] at h1
 have q1:=stands_num h1.left (by omega) (by rw [show p2 16=65536 by decide +kernel]; omega)
 have h2:=h1.right
 rw[pieceBits_length] at h2
 have q2:=stands_num h2.left (by omega) (by rw [show p2 16=65536 by decide +kernel]; omega)
 have h3:=h2.right
 rw[pieceBits_length] at h3
 have q3:=stands_bytes (numsOf t) _ (numsOf_bytes t) h3
 have hl:=h3.1
 rw[byteBits_length,numsOf_length] at hl
 rw[numsOf_length] at q3
 unfold storedE
 rw[if_pos (by omega),q1,q2,if_neg (by omega),if_neg (by omega),Int.toNat_natCast,if_pos (by omega)]
 rw[show wholeAt p+32=wholeAt p+16+16 by omega,q3]
 rw[List.length_append,List.length_append,List.length_append,pieceBits_length,pieceBits_length,byteBits_length,numsOf_length,hw]
 congr 2
 omega
end
section
variable {f1:Nat→Int} {n1:Nat} {f2:Nat→Int} {n2:Nat}
theorem body_len:∀ {L:List Tok},Told f1 f2 L→L.length+1≤(bodyBits f1 n1 f2 n2 L).length
 | [],h=>by
  show 1≤(partBits ([] ++ [codeP f1 n1 256])).length
  rw[List.nil_append,partBits_one,bitsP_length]
  show 1≤(f1 256).toNat
  have:=h.1
  omega
 | t :: R,h=>by
  have ih:=body_len (L:=R) ⟨h.1,fun u hu=>h.2 u (List.mem_cons_of_mem _ hu)⟩
  have ht:=(h.2 t (List.mem_cons_self)).1
  rw[bodyBits_cons,List.length_append,List.length_cons]
  have h1:1≤(partBits (tokP f1 n1 f2 n2 t)).length:=by
   unfold sym1 at ht
   unfold tokP
   split
   ·rename_i hy
    rw[if_pos hy] at ht
    rw[partBits_one,bitsP_length]
    show 1≤(f1 t.1.toNat).toNat
    omega
   ·rename_i hy
    rw[if_neg hy] at ht
    rw[partBits_cons,List.length_append,bitsP_length]
    show 1≤(f1 (LengthCodeOf t.2.1).1.toNat).toNat+_
    omega
  omega
end
theorem fixed_told (L:List Tok):Told fixed1 fixed2 L:=by
 have h:∀ i,1≤fixed1 i:=fun i=>by
  unfold fixed1
  split
  ·omega
  ·split
   ·omega
   ·split <;> omega
 exact⟨h _,fun t _=>⟨h _,fun _=>by unfold fixed2; omega⟩⟩
theorem fixed_stand {s:ByteArray} {most p:Nat} {L:List Tok} {O F:List Int} (hR:∀ t∈L,TokRight t) (hr:run O L=some F) (hl:F.length≤most) (hS:Stands s p (bodyBits fixed1 288 fixed2 32 L)):blockE s most 1 p O=.ok (F,p+(bodyBits fixed1 288 fixed2 32 L).length):=by
 have h1:=body_len (n1:=288) (n2:=32) (fixed_told L)
 have h2:=hS.1
 unfold blockE
 rw[if_neg (by omega),if_pos rfl]
 exact symbols_stand L O F p (8 * s.size+1) hr hl (fixed_told L) (fixed_body hR) hS (by omega)
/-! Codes by functions that agree below n. -/
section
variable {f g:Nat→Int} {n:Nat}
theorem cntS_congr (s:Int):∀ k,k≤n→(∀ i,i < n→f i=g i)→cntS f s k=cntS g s k
 | 0,_,_=>rfl
 | k+1,hk,h=>by
  show cntS f s k+(if f k=s then 1 else 0)=cntS g s k+(if g k=s then 1 else 0)
  rw[cntS_congr s k (by omega) h,h k (by omega)]
theorem cnt_congr:∀ k,k≤n→(∀ i,i < n→f i=g i)→CodeMath.cnt f k=CodeMath.cnt g k
 | 0,_,_=>rfl
 | k+1,hk,h=>by
  show CodeMath.cnt f k+(if 0 < f k then 1 else 0)=CodeMath.cnt g k+(if 0 < g k then 1 else 0)
  rw[cnt_congr k (by omega) h,h k (by omega)]
theorem nx_congr (h:∀ i,i < n→f i=g i):∀ t,nx f n t=nx g n t
 | 0=>rfl
 | t+1=>by
  show 2 * nx f n t+cntS f _ n=2 * nx g n t+cntS g _ n
  rw[nx_congr h t,cntS_congr _ n (Nat.le_refl _) h]
theorem codeP_congr (h:∀ i,i < n→f i=g i) {i:Nat} (hi:i < n):codeP f n i=codeP g n i:=by
 unfold codeP codeOf
 rw[h i hi,nx_congr h,cntS_congr _ i (by omega) h]
theorem kindOf_congr (h:∀ i,i < n→f i=g i):kindOf f n=kindOf g n:=by
 unfold kindOf
 rw[cnt_congr n (Nat.le_refl _) h,room_congr n h]
theorem coded_congr (h:∀ i,i < n→f i=g i) (hG:Coded f n):Coded g n:=by
 refine⟨hG.1,fun i hi=>by rw [← h i hi]; exact hG.2.1 i hi,?_⟩
 rw[← room_congr n h]
 exact hG.2.2
end
section
variable {f1 g1:Nat→Int} {n1:Nat} {f2 g2:Nat→Int} {n2:Nat}
theorem body_congr (h1:∀ i,i < n1→f1 i=g1 i) (h2:∀ i,i < n2→f2 i=g2 i) (he:256 < n1):∀ (L:List Tok),(∀ t∈L,sym1 t < n1)→(∀ t∈L,t.2.1≠0→sym2 t < n2)→bodyBits f1 n1 f2 n2 L=bodyBits g1 n1 g2 n2 L
 | [],_,_=>by
  show partBits ([] ++ [codeP f1 n1 256])=partBits ([] ++ [codeP g1 n1 256])
  rw[codeP_congr h1 he]
 | t :: R,a1,a2=>by
  rw[bodyBits_cons,bodyBits_cons,body_congr h1 h2 he R (fun u hu=>a1 u (List.mem_cons_of_mem _ hu)) (fun u hu=>a2 u (List.mem_cons_of_mem _ hu))]
  have b1:=a1 t (List.mem_cons_self)
  have b2:=a2 t (List.mem_cons_self)
  congr 2
  unfold tokP
  unfold sym1 at b1
  split
  ·rename_i hy
   rw[if_pos hy] at b1
   rw[codeP_congr h1 b1]
  ·rename_i hy
   rw[if_neg hy] at b1
   have b3:=b2 hy
   unfold sym2 at b3
   rw[codeP_congr h1 b1,codeP_congr h2 b3]
theorem body_ok_congr (h1:∀ i,i < n1→f1 i=g1 i) (h2:∀ i,i < n2→f2 i=g2 i) {L:List Tok} (h:BodyOk f1 n1 f2 n2 L):BodyOk g1 n1 g2 n2 L where
 c1:=coded_congr h1 h.c1
 e1:=h.e1
 m2:=h.m2
 w2:=fun i hi=>by rw [← h2 i hi]; exact h.w2 i hi
 right:=h.right
 s1:=h.s1
 s2:=fun t ht hy=>⟨coded_congr h2 (h.s2 t ht hy).1,(h.s2 t ht hy).2⟩
end
end StandMath
end
section
open Go.RowKit Go.Joins PartMath
def pcells:List Part→List Value
 | []=>[]
 | c :: l=>.int .i64 c.1 :: .int .i64 (c.2.1:Int) :: .bool c.2.2 :: pcells l
theorem pcells_length:∀ l:List Part,(pcells l).length=l.length * 3
 | []=>rfl
 | c :: l=>by
  show (pcells l).length+1+1+1=(l.length+1) * 3
  rw[pcells_length l]
  omega
theorem pcells_app:∀ xs ys:List Part,pcells (xs ++ ys)=pcells xs ++ pcells ys
 | [],ys=>rfl
 | c :: l,ys=>by
  show Value.int .i64 c.1 :: .int .i64 (c.2.1:Int) :: .bool c.2.2 :: pcells (l ++ ys)=Value.int .i64 c.1 :: .int .i64 (c.2.1:Int) :: .bool c.2.2 :: (pcells l ++ pcells ys)
  rw[pcells_app l ys]
theorem pcells_get:∀ (l:List Part) (i:Nat),i < l.length→(pcells l)[i * 3]?=some (.int .i64 (l.getD i (0,0,false)).1)∧(pcells l)[i * 3+1]?=some (.int .i64 ((l.getD i (0,0,false)).2.1:Int))∧(pcells l)[i * 3+2]?=some (.bool (l.getD i (0,0,false)).2.2)
 | [],i,h=>by simp at h
 | c :: l,0,_=>⟨rfl,rfl,rfl⟩
 | c :: l,i+1,h=>by
  have q:=pcells_get l i (by simpa using h)
  rw[show (i+1) * 3=i * 3+1+1+1 by omega]
  exact q
theorem pcells_one:∀ (l:List Part),∀ u∈pcells l,u.oneCell'=true
 | [],u,h=>by cases h
 | c :: l,u,h=>by
  rcases List.mem_cons.mp h with rfl | h
  ·rfl
  ·rcases List.mem_cons.mp h with rfl | h
   ·rfl
   ·rcases List.mem_cons.mp h with rfl | h
    ·rfl
    ·exact pcells_one l u h
def PCame (w:World) (a:Option Addr) (L:List Part):Prop:=
 L.length=0∨∃ g off,a=some ⟨g,off,none⟩∧g < w.heap.size∧∀ j,j < L.length→w.cell? ⟨g,off+j * 3,none⟩=some (.int .i64 (L.getD j (0,0,false)).1)∧w.cell? ⟨g,off+j * 3+1,none⟩=some (.int .i64 ((L.getD j (0,0,false)).2.1:Int))∧w.cell? ⟨g,off+j * 3+2,none⟩=some (.bool (L.getD j (0,0,false)).2.2)
theorem PCame.called {w w':World} {a:Option Addr} {L:List Part} (h:PCame w a L) (hb:Below w.heap.size w w'):PCame w' a L:=by
 rcases h with h | ⟨g,off,ha,hg,hc⟩
 ·exact .inl h
 ·exact .inr ⟨g,off,ha,Nat.lt_of_lt_of_le hg hb.size,fun j hj=>⟨(hb.cell (p:=⟨g,off+j * 3,none⟩) hg).trans (hc j hj).1,(hb.cell (p:=⟨g,off+j * 3+1,none⟩) hg).trans (hc j hj).2.1,(hb.cell (p:=⟨g,off+j * 3+2,none⟩) hg).trans (hc j hj).2.2⟩⟩
theorem PCame.news {w:World} {ad:Addr} {L:List Part} (h:PCame w (some ad) L):∀ j u,(pcells L)[j]?=some u→w.cell? (ad.add j)=some u:=by
 intro j u hu
 have hj:j < L.length * 3:=by
  rw[← pcells_length]
  rcases Nat.lt_or_ge j (pcells L).length with k | k
  ·exact k
  ·rw[List.getElem?_eq_none k] at hu; cases hu
 rcases h with h | ⟨g,off,ha,hg,hc⟩
 ·omega
 cases ha
 have hm:=pcells_get L (j / 3) (by omega)
 have q:=hc (j / 3) (by omega)
 rw[Addr.add_lit]
 obtain h0 | h0 | h0:j=j / 3 * 3∨j=j / 3 * 3+1∨j=j / 3 * 3+2:=by omega
 ·rw[h0] at hu
  rw[hm.1] at hu
  rw[show off+j=off+j / 3 * 3 by omega,q.1,hu]
 ·rw[h0] at hu
  rw[hm.2.1] at hu
  rw[show off+j=off+j / 3 * 3+1 by omega,q.2.1,hu]
 ·rw[h0] at hu
  rw[hm.2.2] at hu
  rw[show off+j=off+j / 3 * 3+2 by omega,q.2.2,hu]
theorem pcame_of_own {w:World} {e:TypeId} {S n:Nat} {v:Value} {L:List Part} (h:w.ownsRow S e 3 v n (pcells L)) (hn:n=L.length):∃ a c,v=.slice a L.length c∧L.length≤c∧c≤maxLen∧(a=none→c=0)∧PCame w a L∧(∀ ad,a=some ad→∃ g,ad=⟨g,0,none⟩∧S≤g):=by
 subst hn
 rcases h.2 with ⟨rfl,h0⟩ | ⟨g,cap,cur,rfl,hb,hg,hc,hm,hs,ht⟩
 ·exact⟨none,0,by rw [h0],by omega,Nat.zero_le _,fun _=>rfl,.inl h0,fun ad e=>by cases e⟩
 ·refine⟨_,cap,rfl,hc,hm,(fun e=>by cases e),.inr ⟨g,0,rfl,block_lt hg,fun j hj=>?_⟩,fun ad e=>by cases e; exact⟨g,rfl,hb⟩⟩
  have q:=pcells_get L j hj
  rw[Nat.zero_add,h.cellAt (j * 3) (by omega),h.cellAt (j * 3+1) (by omega),h.cellAt (j * 3+2) (by omega)]
  exact q
theorem row_called {w w':World} {e:TypeId} {S m n:Nat} {v:Value} {L:List Value} (h:w.ownsRow S e m v n L) (hb:Below w.heap.size w w'):w'.ownsRow S e m v n L:=by
 refine⟨h.1,?_⟩
 rcases h.2 with h | ⟨g,cap,cur,rfl,h1,h2,h3⟩
 ·exact .inl h
 ·exact .inr ⟨g,cap,cur,rfl,h1,(hb.block g (block_lt h2)).trans h2,h3⟩
theorem parts_append {e t:TypeId} (ht:Tryz.prog.underlying t=some (.slice e)) (hinf:(Tryz.prog.info? e).map (fun i=>(i.zero,i.size,i.bytes))=some (some (.agg #[.int .i64 0,.int .i64 0,.bool false]),3,24)) {w:World} {S:Nat} {v:Value} {xs ys:List Part} {ops:Array Oper} {rest:List Oper} {o:Oper} {a:Act} {Q:Exit→Act→World→Prop} (hgd:o.guard=none) (s x:Operand)
  (ho:o.op=.call { callee:=.builtin .append,args:=#[s,x],argTypes:=#[t,t] }) (hs:a.eval s=v) (h:w.ownsRow S e 3 v xs.length (pcells xs)) (ad:Addr) (m c:Nat) (hx:a.eval x=.slice (some ad) m c) (hm:ys.length=m)
  (hc:∀ j u,(pcells ys)[j]?=some u→w.cell? (ad.add j)=some u)
  (h63:xs.length+ys.length≤1000000) (hS:S≤w.heap.size)
  (hK:∀ v' w',w'.ownsRow S e 3 v' (xs ++ ys).length (pcells (xs ++ ys))→w.grownBy w' v.ownBlock→(v'.ownBlock=v.ownBlock∨v'.ownBlock=some w.heap.size)→wpList Tryz.prog ops Q rest (a.put o.dst v') w'):wpList Tryz.prog ops Q (o :: rest) a w:=by
 obtain⟨i0,hi0,hz0,hz1,hz2⟩:=info_parts hinf
 refine wpList_append_own_at w hgd s x _ ho S e i0 _ 3 24 ht hi0 hz0 hz1 hz2 rfl (by omega) v _ _ hs h ad m c (pcells ys) hx (by rw [pcells_length,hm]) hc (pcells_one ys) (by unfold maxLen; omega) (by omega) hS ?_
 intro v' w' hown hg _ hat
 refine hK v' w' ?_ hg hat
 rw[List.length_append,pcells_app,hm]
 exact hown
theorem step_parts {e t:TypeId} (ht:Tryz.prog.underlying t=some (.slice e)) (hinf:(Tryz.prog.info? e).map (fun i=>(i.zero,i.size,i.bytes))=some (some (.agg #[.int .i64 0,.int .i64 0,.bool false]),3,24)) (w:World) {ops:Array Oper} {o:Oper} {a:Act} {K:Act→World→Prop} {Q:Exit→Act→World→Prop} {E:Prop} (hgd:o.guard=none) (s x:Operand)
  (ho:o.op=.call { callee:=.builtin .append,args:=#[s,x],argTypes:=#[t,t] }) (S:Nat) (v:Value) (xs ys:List Part) (hs:a.eval s=v) (h:w.ownsRow S e 3 v xs.length (pcells xs)) (ad:Addr) (m c:Nat) (hx:a.eval x=.slice (some ad) m c) (hm:ys.length=m) (hm0:0 < m)
  (hc:∀ j u,(pcells ys)[j]?=some u→w.cell? (ad.add j)=some u) (h63:xs.length+ys.length≤1000000) (hS:S≤w.heap.size) (H:Nat) (hH:w.heap.size=H) (N:Nat) (hN:(xs ++ ys).length=N)
  (hK:∀ g cap w',w'.ownsRow S e 3 (.slice (some ⟨g,0,none⟩) N cap) N (pcells (xs ++ ys))→w.grownBy w' v.ownBlock→(v.ownBlock=some g∨g=H)→g < w'.heap.size→K (a.put o.dst (.slice (some ⟨g,0,none⟩) N cap)) w'):
  if Region.wanted o (yielded ops a.tmps)=true then Oper.wp Tryz.prog o a w K Q else E:=by
 obtain⟨i0,hi0,hz0,hz1,hz2⟩:=info_parts hinf
 rw[List.length_append,hm] at hN
 subst hN
 refine step_append_lies w hgd s x t ho S e i0 _ 3 24 ht hi0 hz0 hz1 hz2 rfl (by omega) v _ _ hs h ad m c (pcells ys) hx (by rw [pcells_length,hm]) hc (pcells_one ys) hm0 (by unfold maxLen; omega) (by omega) hS H hH ?_
 intro g cap w' h1 h2 h3 h4
 refine hK g cap w' ?_ h2 h3 h4
 rw[pcells_app]
 exact h1
theorem news_part (w:World) (e:TypeId) (x:Int) (k:Nat) (h:Bool) (n:Nat) (hn:w.heap.size=n):∀ q u,(pcells [(x,k,h)])[q]?=some u→(w.alloc (.cells #[.int .i64 x,.int .i64 (k:Int),.bool h] e)).cell? ((⟨n,0,none⟩:Addr).add q)=some u:=by
 subst hn
 exact World.news_of_block (cs:=#[.int .i64 x,.int .i64 (k:Int),.bool h]) (t:=e) (fr:=(0,0)) (heap_alloc_new w _)
theorem news_parts (w:World) (e:TypeId) (L:List Part) (n:Nat) (hn:w.heap.size=n):∀ q u,(pcells L)[q]?=some u→(w.alloc (.cells (pcells L).toArray e)).cell? ((⟨n,0,none⟩:Addr).add q)=some u:=by
 subst hn
 have:=World.news_of_block (cs:=(pcells L).toArray) (t:=e) (fr:=(0,0)) (heap_alloc_new w (.cells (pcells L).toArray e))
 simpa using this
theorem own_lit (w:World) (e:TypeId) (S:Nat) (hS:S≤w.heap.size) (L:List Part) (hL:L.length≤1000000):(w.alloc (.cells (pcells L).toArray e)).ownsRow S e 3 (.slice (some ⟨w.heap.size,0,none⟩) L.length L.length) L.length (pcells L):=by
 refine⟨pcells_length L,.inr ⟨w.heap.size,L.length,_,rfl,hS,heap_alloc_new w _,Nat.le_refl _,by unfold maxLen; omega,by simp [pcells_length],?_⟩⟩
 simp[← pcells_length]
end
section
open Go.RowKit Go.Joins TokMath CodeMath RunsMath InfMath TrimMath TokLenMath PartMath BodyMath WovenMath
def whd (nA nB nT:Nat):List Part:=[((nA:Int) - 257,5,false),((nB:Int) - 1,5,false),((nT:Int) - 4,4,false)]
def toldTo (R:List (Int×Int)) (j:Nat):List Part:=(List.range j).map fun i=>(toldF R i,3,false)
theorem toldTo_next (R:List (Int×Int)) (j:Nat):toldTo R (j+1)=toldTo R j ++ [(toldF R j,3,false)]:=by
 unfold toldTo
 rw[List.range_succ,List.map_append]
 rfl
theorem toldTo_length (R:List (Int×Int)) (j:Nat):(toldTo R j).length=j:=by simp [toldTo]
theorem runsP_snoc (R Q:List (Int×Int)) (r:Int×Int):runsP R (Q ++ [r])=runsP R Q ++ runP R r:=by simp [runsP]
theorem runsP_length (R:List (Int×Int)):∀ Q:List (Int×Int),(runsP R Q).length=2 * Q.length
 | []=>rfl
 | r :: Q=>by
  show (runP R r ++ runsP R Q).length=_
  rw[List.length_append,runsP_length R Q,List.length_cons]
  show 2+_=_
  omega
def LpQ (e:TypeId) (wQ X:World) (S gv0:Nat) (v:Value) (P:List Part):Prop:=wQ.grownBy X (some gv0)∧X.ownsRow S e 3 v P.length (pcells P)∧∃ g,v.ownBlock=some g∧(g=gv0∨wQ.heap.size≤g)
theorem LpQ.called {e:TypeId} {wQ X Y:World} {S gv0:Nat} {v:Value} {P:List Part} (h:LpQ e wQ X S gv0 v P) (hb:Below X.heap.size X Y):LpQ e wQ Y S gv0 v P:=⟨h.1.trans (⟨hb.os,hb.tape,hb.output,hb.size,fun k hk _=>hb.block k hk⟩:X.grownBy Y _),row_called h.2.1 hb,h.2.2⟩
theorem LpQ.next {e:TypeId} {wQ X Y:World} {S gv0 g cap n:Nat} {v:Value} {P P':List Part} (h:LpQ e wQ X S gv0 v P) (hg:X.grownBy Y v.ownBlock) (hr:Y.ownsRow S e 3 (.slice (some ⟨g,0,none⟩) n cap) P'.length (pcells P')) (hat:v.ownBlock=some g∨X.heap.size≤g):LpQ e wQ Y S gv0 (.slice (some ⟨g,0,none⟩) n cap) P':=by
 obtain⟨h1,h2,g0,h3,h4⟩:=h
 have hs:=h1.size
 refine⟨⟨hg.os.trans h1.os,hg.tape.trans h1.tape,hg.output.trans h1.output,Nat.le_trans h1.size hg.size,fun k hk hne=>?_⟩,hr,g,rfl,?_⟩
 ·refine (hg.block k (Nat.lt_of_lt_of_le hk hs) ?_).trans (h1.block k hk hne)
  rw[h3]
  intro eq
  have eq:=Option.some.inj eq
  rcases h4 with q | q
  ·exact hne (by rw [eq,q])
  ·omega
 ·rcases hat with q | q
  ·rw[h3] at q
   have eq:=Option.some.inj q
   rw[← eq]
   exact h4
  ·exact .inr (Nat.le_trans hs q)
theorem row_mono {w:World} {e:TypeId} {S S' m n:Nat} {v:Value} {L:List Value} (h:w.ownsRow S e m v n L) (hS:S'≤S):w.ownsRow S' e m v n L:=by
 refine⟨h.1,?_⟩
 rcases h.2 with h | ⟨g,cap,cur,rfl,h1,h3⟩
 ·exact .inl h
 ·exact .inr ⟨g,cap,cur,rfl,Nat.le_trans hS h1,h3⟩
theorem if_wanted {c A E:Prop} [Decidable c] (hc:c) (h:A):if c then A else E:=by rw [if_pos hc]; exact h
theorem wanted_none {o:Oper} {y:Nat→Option Bool} (h:o.guard=none):Region.wanted o y=true:=by simp [Region.wanted,h]
def Lp1 (e:TypeId) (wK X:World) (P:List Part) (v:Value):Prop:=Below wK.heap.size wK X∧X.ownsRow wK.heap.size e 3 v P.length (pcells P)
end
end Go.Proofs.YtklpiihnbokkkaaGreatDoor
