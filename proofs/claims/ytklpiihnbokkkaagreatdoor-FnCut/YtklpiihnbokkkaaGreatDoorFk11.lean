/-
  Texts of the proof, put together.
-/
import Derived.Test.YtklpiihnbokkkaaGreatDoorFk10
import Derived.Test.YtklpiihnbokkkaaGreatDoorFk08
namespace Go.Proofs.YtklpiihnbokkkaaGreatDoor
section
namespace StandMath
open OutMath CodeMath TakeMath HitMath WayMath StepMath TokMath InfMath PutMath RunsMath TokLenMath TrimMath BlockMath PartMath BodyMath PackageMath WovenMath
theorem order_idx:∀ i,i < 19→orderL.idxOf i < 19∧orderL.getD (orderL.idxOf i) 0=i:=by decide +kernel
section
variable {s:ByteArray}
theorem parts3_length (g:Nat→Int):∀ n,(partBits ((List.range n).map fun i=>(g i,3,false))).length=3 * n
 | 0=>rfl
 | n+1=>by
  rw[List.range_succ,List.map_append,partBits_app,List.length_append,parts3_length g n]
  show 3 * n+(partBits [(g n,3,false)]).length=_
  rw[partBits_one,bitsP_length]
  show 3 * n+3=_
  omega
theorem stands_parts3 (g:Nat→Int) (hg:∀ i,0≤g i∧g i≤7) (q:Nat):∀ n,Stands s q (partBits ((List.range n).map fun i=>(g i,3,false)))→∀ i,i < n→num s (q+3 * i) 3=g i
 | 0,_,i,hi=>by omega
 | n+1,h,i,hi=>by
  rw[List.range_succ,List.map_append,partBits_app] at h
  by_cases e:i=n
  ·subst e
   have h1:=h.right
   rw[parts3_length] at h1
   have h2:Stands s (q+3 * i) (partBits [(g i,3,false)]):=h1
   rw[partBits_one] at h2
   have h3:Stands s (q+3 * i) (pieceBits (g i) 3 false):=h2
   exact stands_num h3 (hg i).1 (by rw [show p2 3=8 by decide +kernel]; have:=(hg i).2; omega)
  ·exact stands_parts3 g hg q n h.left i (by omega)
theorem third_agrees {R:List (Int×Int)} (hl:R.length≤316) {q:Nat} (h:Stands s q (partBits (toldP R))):∀ i,i < 19→thirdF s q (toldN R) i=third R i:=by
 intro i hi
 obtain⟨h1,h2⟩:=order_idx i hi
 have hg:∀ i,0≤toldF R i∧toldF R i≤7:=fun i=>WovenMath.third_ok hl _ (order_lt i)
 have e:toldF R (orderL.idxOf i)=third R i:=by
  unfold toldF
  rw[h2]
 unfold thirdF
 by_cases hk:orderL.idxOf i < toldN R
 ·rw[if_pos hk,stands_parts3 (toldF R) hg q (toldN R) h _ hk,e]
 ·rw[if_neg hk,← e,trimN_out (toldF R) 4 19 (orderL.idxOf i) (by unfold toldN at hk; omega) h1]
end
theorem cnt_ones (f:Nat→Int):∀ n,CodeMath.cnt (fun i=>if f i=0 then 0 else 1) n=(posN f n:Int)
 | 0=>rfl
 | n+1=>by
  have ih:=cnt_ones f n
  have e:posN f (n+1)=posN f n+(if decide (f n≠0)=true then 1 else 0):=rfl
  show CodeMath.cnt (fun i=>if f i=0 then 0 else 1) n+(if 0 < (if f n=0 then (0:Int) else 1) then 1 else 0)=_
  rw[ih,e]
  by_cases h:f n=0
  ·rw[if_pos h,if_neg (by omega),if_neg (by simp [h])]
   omega
  ·rw[if_neg h,if_pos (by omega),if_pos (by simp [h])]
   omega
theorem cnt_zero {f:Nat→Int} (h:∀ i,f i=0):∀ n,CodeMath.cnt f n=0
 | 0=>rfl
 | n+1=>by
  show CodeMath.cnt f n+(if 0 < f n then 1 else 0)=0
  rw[cnt_zero h n,h n,if_neg (by omega)]
  rfl
section
variable {f:Nat→Int} {n:Nat} {z:Int}
theorem lim_ok (hR:LimitRight f n z):OkLens (limLen f n z) n:=by
 intro i hi
 have hs:=lim_shape hR i hi
 have hz:=hR.2.2.1
 by_cases h:f i=0
 ·rw[hs.1 h]; omega
 ·have:=hs.2 h; omega
theorem whole_is (hn:n≤288) (ho:OkLens f n) (hr:room f n=32768):kindOf f n=2:=whole_kind (k:=kindOf f n) (.inr ⟨hn,ho,rfl⟩) hn ho hr
theorem lim_one_fun (h1:posN f n=1):limLen f n z=fun i=>if f i=0 then 0 else 1:=by
 funext i
 unfold limLen
 rw[if_neg (by omega),if_pos h1]
theorem lim_kind (hR:LimitRight f n z):(posN f n=0→kindOf (limLen f n z) n=1)∧(posN f n=1→kindOf (limLen f n z) n=3)∧(2≤posN f n→kindOf (limLen f n z) n=2):=by
 refine⟨fun h=>?_,fun h=>?_,fun h=>whole_is hR.1 (lim_ok hR) (lim_whole hR h)⟩
 ·unfold kindOf
  rw[if_pos (cnt_zero (fun i=>(lim_none h i).symm) n)]
 ·rw[lim_one_fun h]
  unfold kindOf
  rw[cnt_ones,room_ones,h,if_neg (by omega),if_neg (by omega),if_neg (by omega),if_pos ⟨by omega,by omega⟩]
theorem room_tail {m:Nat}:∀ d,(∀ i,m≤i→i < m+d→f i=0)→room f (m+d)=room f m
 | 0,_=>rfl
 | d+1,h=>by
  show room f (m+d)+(if 0 < f (m+d) then _ else 0)=_
  rw[room_tail d (fun i h1 h2=>h i h1 (by omega)),h (m+d) (by omega) (by omega),if_neg (by omega)]
  omega
theorem cnt_tail {m:Nat}:∀ d,(∀ i,m≤i→i < m+d→f i=0)→CodeMath.cnt f (m+d)=CodeMath.cnt f m
 | 0,_=>rfl
 | d+1,h=>by
  show CodeMath.cnt f (m+d)+(if 0 < f (m+d) then 1 else 0)=_
  rw[cnt_tail d (fun i h1 h2=>h i h1 (by omega)),h (m+d) (by omega) (by omega),if_neg (by omega)]
  omega
theorem kind_trim {m:Nat} (hm:m≤n) (h:∀ i,m≤i→i < n→f i=0):kindOf f m=kindOf f n:=by
 obtain⟨d,rfl⟩:∃ d,n=m+d:=⟨n - m,by omega⟩
 unfold kindOf
 rw[room_tail d h,cnt_tail d h]
end
theorem third_whole {R:List (Int×Int)} (hl:R.length≤316) (hne:R≠[]) (hs:∀ r∈R,0≤r.1∧r.1≤18):kindOf (third R) 19=2:=by
 have hL:=limR hl
 obtain⟨r,hr⟩:=List.exists_mem_of_ne_nil R hne
 have h18:=hs r hr
 have hp:1≤posN (cntR R) 19:=cN_one _ 19 r.1.toNat (by omega) (decide_eq_true (cntR_pos hr))
 obtain⟨_,k1,k2⟩:=lim_kind hL
 by_cases h2:2≤posN (cntR R) 19
 ·have e:third R=th0 R:=by
   unfold third
   rw[if_neg (by have:=k2 h2; unfold th0; omega)]
  rw[e]
  exact k2 h2
 ·have h1:posN (cntR R) 19=1:=by omega
  have hk:kindOf (th0 R) 19=3:=k1 h1
  obtain⟨hc,hrm⟩:=third_single hl hk
  have ho:OkLens (third R) 19:=fun i hi=>by have:=WovenMath.third_ok hl i hi; omega
  refine whole_is (by omega) ho ?_
  unfold third
  rw[if_pos hk]
  split
  ·rename_i h0
   rw[room_upd h0,hrm,if_pos (by omega)]
   omega
  ·rename_i h0
   have hz1:th0 R 1=0:=by
    have hm:=cnt_mono (th0 R) 2 17
    rw[show 2+17=19 from rfl,hc] at hm
    have e2:CodeMath.cnt (th0 R) 2=(0+(if 0 < th0 R 0 then 1 else 0))+(if 0 < th0 R 1 then 1 else 0):=rfl
    rw[e2] at hm
    have a0:=th0_ok hl 0 (by omega)
    have a1:=th0_ok hl 1 (by omega)
    rw[if_pos (by omega)] at hm
    split at hm
    ·omega
    ·omega
   rw[room_upd hz1,hrm,if_pos (by omega)]
   omega
section
variable {s:ByteArray} {R:List (Int×Int)} {f3:Nat→Int}
theorem runsP_cons (r:Int×Int) (Q:List (Int×Int)):partBits (runsP R (r :: Q))=bitsP (codeP (third R) 19 r.1.toNat) ++ (pieceBits r.2 (bitsOf r.1) false ++ partBits (runsP R Q)):=by
 show partBits (runP R r ++ runsP R Q)=_
 rw[partBits_app]
 show (bitsP (codeP (third R) 19 r.1.toNat) ++ (pieceBits r.2 (bitsOf r.1) false ++ [])) ++ _=_
 rw[List.append_nil,List.append_assoc]
theorem runs_bits:∀ Q:List (Int×Int),(∀ r∈Q,0 < third R r.1.toNat)→Q.length≤(partBits (runsP R Q)).length
 | [],_=>Nat.zero_le _
 | r :: Q,h=>by
  have ih:=runs_bits Q (fun u hu=>h u (List.mem_cons_of_mem _ hu))
  have h1:=h r (List.mem_cons_self)
  rw[runsP_cons,List.length_append,List.length_append,bitsP_length,List.length_cons]
  show _≤(third R r.1.toNat).toNat+_
  omega
theorem all_stand {f:Nat→Int} {n:Nat} (hf:Fine f n) (hcd:Coded (third R) 19) (ha:∀ i,i < 19→third R i=f3 i):∀ (d i p m:Nat),n - i=d→i≤n→(∀ r∈rest f n i,(0≤r.1∧r.1≤18)∧0 < third R r.1.toNat)→Stands s p (partBits (runsP R (rest f n i)))→(rest f n i).length < m→allF s f3 n m p (lst f i)=.ok (lst f n,p+(partBits (runsP R (rest f n i))).length):=by
 intro d
 induction d using Nat.strongRecOn with
 | ind d ih=>
  intro i p m hd hi hr hS hm
  obtain⟨m,rfl⟩:∃ k,m=k+1:=⟨m - 1,by omega⟩
  by_cases h:i < n
  ·have hp:=runAt_pos f n i
   have hin:=runAt_in (f:=f) h
   have hfi:=runAt_fine hf h
   obtain⟨more,ht,hmore⟩:=tell_runAt hf h
   rw[rest_more h] at hr hS hm ⊢
   have h0:=hr _ (List.mem_cons_self)
   generalize hrr:(runAt f n i).1=r at hr hS hm ht hfi h0 ⊢
   generalize (runAt f n i).2=k at hp hin hmore hr hS hm ⊢
   obtain⟨r1,r2⟩:=r
   simp only [] at h0 hfi
   obtain⟨y,rfl⟩:=Int.eq_ofNat_of_zero_le h0.1.1
   rw[Int.toNat_natCast] at h0
   rw[runsP_cons] at hS ⊢
   simp only [] at hS ⊢
   rw[Int.toNat_natCast] at hS ⊢
   rw[codeP_congr ha (show y < 19 by omega)] at hS ⊢
   have h1:=stands_sym (coded_congr ha hcd) (show y < 19 by omega) (by rw [← ha y (by omega)]; omega) hS.left
   have q2:=hS.right.left
   rw[bitsP_length] at q2
   have q2':Stands s (p+(f3 y).toNat) (pieceBits r2 (bitsOf (y:Int)) false):=q2
   have h2:=stands_take q2' hfi.1 hfi.2
   have q3:=hS.right.right
   rw[bitsP_length,pieceBits_length] at q3
   have q3':Stands s (p+(f3 y).toNat+bitsOf (y:Int)) (partBits (runsP R (rest f n (i+k)))):=q3
   have h3:=ih (n - (i+k)) (by omega) (i+k) _ m rfl (by omega) (fun u hu=>hr u (List.mem_cons_of_mem _ hu)) q3' (by rw [List.length_cons] at hm; omega)
   have hlen:(lst f i).length+more.length≤n:=by
    have h9:=congrArg List.length hmore
    rw[lst_length,List.length_append,lst_length] at h9
    rw[lst_length]
    omega
   unfold allF
   rw[if_pos (by rw [lst_length]; exact h),h1]
   simp only []
   rw[h2]
   simp only []
   rw[ht]
   simp only []
   rw[if_pos hlen,← hmore,h3,List.length_append,List.length_append,bitsP_length,pieceBits_length]
   show Except.ok (lst f n,p+(f3 y).toNat+bitsOf (y:Int)+_)=Except.ok (lst f n,p+((f3 y).toNat+(bitsOf (y:Int)+_)))
   congr 2
   omega
  ·obtain rfl:i=n:=by omega
   rw[rest_none h]
   unfold allF
   rw[if_neg (by rw [lst_length]; exact h)]
   rfl
end
section
variable {L:List Tok}
theorem kindA (hR:TokensRight L):kindOf (lenA L) (sizeA L)=2∨kindOf (lenA L) (sizeA L)=3:=by
 rw[kind_trim (sizeA_bd L).2 (fun i h1 h2=>trimN_out (lenA L) 257 286 i h1 h2)]
 have hp:1≤posN (cntA L) 286:=cN_one _ 286 256 (by omega) (decide_eq_true (by unfold cntA; rw [if_pos rfl]; omega))
 obtain⟨_,k1,k2⟩:=lim_kind (limA hR)
 by_cases h2:2≤posN (cntA L) 286
 ·exact .inl (k2 h2)
 ·exact .inr (k1 (by omega))
theorem kindB (hR:TokensRight L):kindOf (lenB L) (sizeB L)=1∨kindOf (lenB L) (sizeB L)=2∨kindOf (lenB L) (sizeB L)=3:=by
 rw[kind_trim (sizeB_bd L).2 (fun i h1 h2=>trimN_out (lenB L) 1 30 i h1 h2)]
 obtain⟨k0,k1,k2⟩:=lim_kind (limB hR)
 by_cases h0:posN (cntB L) 30=0
 ·exact .inl (k0 h0)
 ·by_cases h2:2≤posN (cntB L) 30
  ·exact .inr (.inl (k2 h2))
  ·exact .inr (.inr (k1 (by omega)))
theorem woven_told (hR:TokensRight L):Told (lenA L) (lenB L) L:=by
 refine⟨((lim_shape (limA hR) 256 (by omega)).2 (by unfold cntA; rw [if_pos rfl]; omega)).1,fun t ht=>⟨((lim_shape (limA hR) (sym1 t) (sym1_lt (hR.2 t ht)).1).2 (cntA_pos ht)).1,fun hy=>?_⟩⟩
 have hT:=hR.2 t ht
 have hl:sym2 t < 30:=by
  obtain⟨x,y,z⟩:=t
  unfold TokRight at hT
  rw[if_neg hy] at hT
  have:=dist_range (z:=z) hT.2.2
  unfold sym2
  simp only []
  omega
 exact ((lim_shape (limB hR) (sym2 t) hl).2 (cntB_pos ht hy)).1
theorem getA (L:List Tok):∀ i,i < sizeA L→lenA L i=(lst (fC L) (nC L)).getD i 0:=fun i hi=>by
 rw[lst_get _ _ _ (by unfold nC; omega)]
 unfold fC
 rw[if_pos hi]
theorem getB (L:List Tok):∀ i,i < sizeB L→lenB L i=((lst (fC L) (nC L)).drop (sizeA L)).getD i 0:=fun i hi=>by
 rw[List.getD_eq_getElem?_getD,List.getElem?_drop,← List.getD_eq_getElem?_getD,lst_get _ _ _ (by unfold nC; omega)]
 unfold fC
 rw[if_neg (by omega),Nat.add_sub_cancel_left]
variable {s:ByteArray} {p:Nat}
theorem tables_stand (hR:TokensRight L) (hS:Stands s p (partBits (lensP L))):tablesE s p=.ok (lst (fC L) (nC L),sizeA L,p+(partBits (lensP L)).length):=by
 have hA:=sizeA_bd L
 have hB:=sizeB_bd L
 have hT:=toldN_bd (runsW L)
 have hl:=runsW_length L
 have hsy:=rest_sym (fineC hR) _ 0 rfl
 have hne:runsW L≠[]:=by
  unfold runsW
  rw[rest_more (by unfold nC; omega)]
  exact fun h=>by cases h
 have e:partBits (lensP L)=pieceBits ((sizeA L:Int) - 257) 5 false ++ (pieceBits ((sizeB L:Int) - 1) 5 false ++ (pieceBits ((toldN (runsW L):Int) - 4) 4 false ++ (partBits (toldP (runsW L)) ++ partBits (runsP (runsW L) (runsW L))))):=by
  unfold lensP
  rw[partBits_app,partBits_app]
  show ((pieceBits _ 5 false ++ (pieceBits _ 5 false ++ (pieceBits _ 4 false ++ []))) ++ _) ++ _=_
  simp only [List.append_assoc,List.append_nil]
 have hlen:(partBits (lensP L)).length=14+(3 * toldN (runsW L)+(partBits (runsP (runsW L) (runsW L))).length):=by
  rw[e]
  simp only [List.length_append,pieceBits_length]
  rw[show (partBits (toldP (runsW L))).length=3 * toldN (runsW L) from parts3_length _ _]
  omega
 rw[hlen]
 rw[e] at hS
 have x1:=stands_num hS.left (by omega) (by rw [show p2 5=32 by decide +kernel]; omega)
 have s2:=hS.right
 rw[pieceBits_length] at s2
 have x2:=stands_num s2.left (by omega) (by rw [show p2 5=32 by decide +kernel]; omega)
 have s3:=s2.right
 rw[pieceBits_length,show p+5+5=p+10 by omega] at s3
 have x3:=stands_num s3.left (by omega) (by rw [show p2 4=16 by decide +kernel]; omega)
 have s4:=s3.right
 rw[pieceBits_length,show p+10+4=p+14 by omega] at s4
 have x4:=third_agrees hl s4.left
 have s5:=s4.right
 rw[show (partBits (toldP (runsW L))).length=3 * toldN (runsW L) from parts3_length _ _] at s5
 have hb5:=s5.1
 have hpos:∀ r∈runsW L,(0≤r.1∧r.1≤18)∧0 < third (runsW L) r.1.toNat:=fun r hr=>⟨hsy r hr,third_has hl hr (hsy r hr)⟩
 have hrb:=runs_bits (R:=runsW L) (runsW L) (fun r hr=>(hpos r hr).2)
 have x5:=all_stand (s:=s) (R:=runsW L) (f3:=thirdF s (p+14) (toldN (runsW L))) (fineC hR) (third_coded hl) (fun i hi=>(x4 i hi).symm) (nC L) 0 (p+14+3 * toldN (runsW L)) (8 * s.size+1) rfl (Nat.zero_le _) hpos s5 (by show (runsW L).length < _; omega)
 have e0:lst (fC L) 0=[]:=rfl
 rw[e0] at x5
 have t3:((toldN (runsW L):Int) - 4+4).toNat=toldN (runsW L):=by omega
 have tA:((sizeA L:Int) - 257+257).toNat=sizeA L:=by omega
 have tB:((sizeB L:Int) - 1+1).toNat=sizeB L:=by omega
 unfold tablesE
 rw[if_pos (by omega),x1,x2,x3,t3,tA,tB,if_neg (by omega),if_pos (by omega)]
 rw[if_neg (by rw [kindOf_congr x4,third_whole hl hne hsy]; omega)]
 have hN:sizeA L+sizeB L=nC L:=rfl
 rw[hN,x5]
 simp only []
 have hTR:TabRight (sizeA L) (lst (fC L) (nC L)):=by
  have e1:(lst (fC L) (nC L)).length - sizeA L=sizeB L:=by
   rw[lst_length]
   unfold nC
   omega
  refine⟨?_,?_,?_⟩
  ·rw[← kindOf_congr (getA L)]
   exact kindA hR
  ·rw[← getA L 256 (by omega)]
   have:=(woven_told hR).1
   omega
  ·rw[e1,← kindOf_congr (getB L)]
   exact kindB hR
 rw[if_pos hTR]
 congr 2
 congr 1
 show p+14+3 * toldN (runsW L)+(partBits (runsP (runsW L) (runsW L))).length=_
 omega
theorem woven_stand {most:Nat} {O F:List Int} (hR:TokensRight L) (hr:run O L=some F) (hl:F.length≤most) (hS:Stands s p (partBits (lensP L) ++ bodyBits (lenA L) (sizeA L) (lenB L) (sizeB L) L)):blockE s most 2 p O=.ok (F,p+(partBits (lensP L) ++ bodyBits (lenA L) (sizeA L) (lenB L) (sizeB L) L).length):=by
 have h1:=tables_stand hR hS.left
 have hB:=woven_body hR
 have eL:(lst (fC L) (nC L)).length - sizeA L=sizeB L:=by
  rw[lst_length]
  unfold nC
  omega
 have eb:=body_congr (getA L) (getB L) hB.e1 L hB.s1 (fun t ht hy=>(hB.s2 t ht hy).2)
 have hT:Told (fun i=>(lst (fC L) (nC L)).getD i 0) (fun i=>((lst (fC L) (nC L)).drop (sizeA L)).getD i 0) L:=by
  have h0:=woven_told hR
  refine⟨?_,fun t ht=>⟨?_,fun hy=>?_⟩⟩
  ·show 1≤(lst (fC L) (nC L)).getD 256 0
   rw[← getA L 256 hB.e1]
   exact h0.1
  ·show 1≤(lst (fC L) (nC L)).getD (sym1 t) 0
   rw[← getA L _ (hB.s1 t ht)]
   exact (h0.2 t ht).1
  ·show 1≤((lst (fC L) (nC L)).drop (sizeA L)).getD (sym2 t) 0
   rw[← getB L _ (hB.s2 t ht hy).2]
   exact (h0.2 t ht).2 hy
 have q2:=hS.right
 rw[eb] at q2
 have hlb:=body_len (f1:=fun i=>(lst (fC L) (nC L)).getD i 0) (n1:=sizeA L) (f2:=fun i=>((lst (fC L) (nC L)).drop (sizeA L)).getD i 0) (n2:=sizeB L) hT
 have hb:=q2.1
 have h2:=symbols_stand (s:=s) (most:=most) L O F _ (8 * s.size+1) hr hl hT (body_ok_congr (getA L) (getB L) hB) q2 (by omega)
 unfold blockE
 rw[if_neg (by omega),if_neg (by omega),if_pos rfl,h1]
 simp only []
 rw[eL,h2,List.length_append,eb,Nat.add_assoc]
end
end StandMath
end
section
namespace StandMath
open OutMath CodeMath TakeMath HitMath WayMath StepMath TokMath InfMath PutMath RunsMath TokLenMath TrimMath BlockMath PartMath BodyMath PackageMath WovenMath
theorem bits_stand {o o':ByteArray×Nat} {bs:List Int} (h:bitsOut o bs=some o') (h01:Bits01 bs):Stands o'.1 o.2 bs∧∀ i,i < o.2→bit o'.1 i=bit o.1 i:=by
 obtain⟨h1,h2,h3,h4,h5,h6⟩:=bitsOut_right h h01
 have inv:Inv (numsOf o.1) o.2:=bytes_inv o.1 o.2 h6
 have ab:=putB_allB inv (numsOf_allB o.1) h01
 obtain⟨q1,q2,q3,q4⟩:=fits_of_outB _ _ h1
 refine⟨⟨by omega,fun i hi=>?_⟩,fun i hi=>?_⟩
 ·rw[h5,BitsMath.bit_str ab]
  exact BitsMath.puts_new inv h01 i bs.length hi
 ·rw[h5,BitsMath.bit_str ab]
  have e:=BitsMath.puts_old inv h01 i hi bs.length
  show BitsMath.bitAt (puts (numsOf o.1) o.2 (fun i=>bs.getD i 0) bs.length) i=_
  rw[e]
  have h8:=BitsMath.byteAt_str (numsOf_allB o.1) (i / 8)
  unfold bit BitsMath.bitAt
  rw[numsOf_get]
where
 numsOf_get {s:ByteArray} {i:Nat}:(numsOf s).getD i 0=((byteAt s i:Nat):Int):=by
  unfold numsOf byteAt
  rw[List.getD_eq_getElem?_getD,List.getElem?_map,Array.getElem?_toList]
  cases s.data[i]? <;> rfl
theorem empty_ok:outB ⟨#[]⟩ (0:Nat)=true:=by decide +kernel
theorem storedBits_01 (c:Nat) (t:ByteArray):Bits01 (storedBits c t):=(fillBits_01 c).append ((pieceBits_01 _ _ _).append ((pieceBits_01 _ _ _).append (byteBits_01 _)))
section
variable {L:List Tok} {F:List Int}
end
end StandMath
end
section
namespace StandMath
open OutMath CodeMath TakeMath HitMath WayMath StepMath TokMath InfMath PutMath RunsMath TokLenMath TrimMath BlockMath PartMath BodyMath PackageMath WovenMath
def blkBits (kind p:Nat) (t:ByteArray) (L:List Tok):List Int:=
 if kind=0 then storedBits p t else if kind=1 then bodyBits fixed1 288 fixed2 32 L else partBits (lensP L) ++ bodyBits (lenA L) (sizeA L) (lenB L) (sizeB L) L
def blkOut (kind:Nat) (s:ByteArray) (c:Int) (t:ByteArray) (L:List Tok) (last:Bool):Option (ByteArray×Nat):=
 if kind=0 then storedOut s c t last else if kind=1 then fixedOut s c L last else wovenOut s c L last
theorem blkBits_01 (kind p:Nat) (t:ByteArray) (L:List Tok):Bits01 (blkBits kind p t L):=by
 unfold blkBits
 split
 ·exact storedBits_01 _ _
 ·split
  ·exact partBits_01 _
  ·exact (partBits_01 _).append (partBits_01 _)
theorem blkOut_bits {kind:Nat} {s:ByteArray} {c:Nat} {t:ByteArray} {L:List Tok} {last:Bool} (hk:kind≤2) (ho:outB s (c:Int)=true) (hR:TokensRight L) (ht:kind=0→t.size≤2600):blkOut kind s c t L last=bitsOut (s,c) (headBits kind last ++ blkBits kind (c+3) t L):=by
 have hst:outSt s (c:Int)=some (s,c):=by
  unfold outSt
  rw[if_pos ho,Int.toNat_natCast]
 unfold blkOut blkBits
 by_cases h0:kind=0
 ·subst h0
  rw[if_pos rfl,if_pos rfl]
  unfold storedOut
  rw[if_pos (ht rfl),hst,Option.bind_some]
 ·rw[if_neg h0,if_neg h0]
  by_cases h1:kind=1
  ·subst h1
   rw[if_pos rfl,if_pos rfl]
   unfold fixedOut
   rw[if_pos hR,hst,Option.bind_some]
  ·obtain rfl:kind=2:=by omega
   rw[if_neg h1,if_neg h1]
   unfold wovenOut
   rw[if_pos hR,hst,Option.bind_some]
theorem head_reads {s:ByteArray} {p kind:Nat} {last:Bool} {rest:List Int} (hk:kind≤2) (hS:Stands s p (headBits kind last ++ rest)):p+3≤8 * s.size∧num s p 1=(if last then 1 else 0)∧num s (p+1) 2=(kind:Int)∧Stands s (p+3) rest:=by
 have h1:=hS.left
 have hl:=h1.1
 rw[headBits_length] at hl
 unfold headBits at h1
 have x1:=stands_num h1.left (by cases last <;> decide) (by cases last <;> decide)
 have s2:=h1.right
 rw[pieceBits_length] at s2
 have x2:=stands_num s2 (by omega) (by rw [show p2 2=4 by decide +kernel]; omega)
 have hr:=hS.right
 rw[headBits_length] at hr
 exact⟨hl,x1,x2,hr⟩
theorem Stands.kept {s s':ByteArray} {p c:Nat} {bs:List Int} (h:Stands s p bs) (hc:p+bs.length≤c) (hs:s.size≤s'.size) (hb:∀ i,i < c→bit s' i=bit s i):Stands s' p bs:=
 ⟨by have:=h.1; omega,fun i hi=>by rw [hb _ (by omega)]; exact h.2 i hi⟩
end StandMath
end
section
namespace DeflMath
open OutMath CodeMath InfMath PutMath BlockMath BodyMath TokMath StepMath SearchMath CheapMath TrimMath PartMath
theorem fixed1_le (i:Nat):(fixed1 i).toNat≤9:=by
 unfold fixed1
 split
 ·decide
 ·split
  ·decide
  ·split <;> decide
theorem extra_le (t:Tok):(LengthCodeOf t.2.1).2.1.toNat≤5∧(DistCodeOf t.2.2).2.1.toNat≤13:=by
 have h1:(LengthCodeOf t.2.1).2.1≤5:=by
  by_cases h:3≤t.2.1∧t.2.1≤258
  ·exact (len_back h.1 h.2).2.2.2.2.2.2
  ·unfold LengthCodeOf
   rw[if_neg h]
   show (0:Int)≤5
   omega
 have h2:(DistCodeOf t.2.2).2.1≤13:=by
  by_cases h:1≤t.2.2∧t.2.2≤32768
  ·exact (dist_back h.1 h.2).2.2.2.2.2.2
  ·unfold DistCodeOf
   rw[if_neg h]
   show (0:Int)≤13
   omega
 omega
theorem tok_bits (t:Tok):(partBits (tokP fixed1 288 fixed2 32 t)).length≤32:=by
 unfold tokP
 have h1:=extra_le t
 split
 ·have:=fixed1_le t.1.toNat
  rw[partBits_one,bitsP_length]
  show (fixed1 _).toNat≤32
  omega
 ·have:=fixed1_le (LengthCodeOf t.2.1).1.toNat
  simp only [partBits_cons,List.length_append,bitsP_length]
  show (fixed1 (LengthCodeOf t.2.1).1.toNat).toNat+((LengthCodeOf t.2.1).2.1.toNat+(5+((DistCodeOf t.2.2).2.1.toNat+0)))≤32
  omega
theorem toks_bits:∀ L:List Tok,(partBits (toksP fixed1 288 fixed2 32 L)).length≤32 * L.length
 | []=>Nat.le_refl _
 | t :: R=>by
  have h1:=toks_bits R
  have h2:=tok_bits t
  show (partBits (tokP fixed1 288 fixed2 32 t ++ toksP fixed1 288 fixed2 32 R)).length≤32 * (R.length+1)
  rw[partBits_app,List.length_append]
  omega
theorem fixed_some {L:List Tok} (last:Bool) (hR:∀ t∈L,TokRight t) (hn:L.length≤2600):∃ o,fixedOut ⟨#[]⟩ 0 L last=some o:=by
 have h1:=toks_bits L
 have h2:=fixed1_le 256
 have hl:(headBits 1 last ++ bodyBits fixed1 288 fixed2 32 L).length≤96000:=by
  rw[List.length_append,headBits_length]
  unfold bodyBits bodyP
  rw[partBits_app,List.length_append,partBits_one,bitsP_length]
  show 3+(_+(fixed1 256).toNat)≤96000
  omega
 have h:=bitsOut_some (s:=⟨#[]⟩) (c:=0) (bs:=headBits 1 last ++ bodyBits fixed1 288 fixed2 32 L) empty_out (by omega)
 have e:fixedOut ⟨#[]⟩ 0 L last=bitsOut (⟨#[]⟩,0) (headBits 1 last ++ bodyBits fixed1 288 fixed2 32 L):=by
  unfold fixedOut
  rw[if_pos ⟨by omega,hR⟩,show outSt ⟨#[]⟩ 0=some (⟨#[]⟩,0) from outSt_some empty_out,Option.bind_some]
 exact⟨_,e.trans h⟩
end DeflMath
end
section
namespace StandMath
open OutMath CodeMath TakeMath HitMath WayMath StepMath TokMath InfMath PutMath RunsMath TokLenMath TrimMath BlockMath PartMath BodyMath PackageMath WovenMath DeflMath SearchMath CheapMath
theorem block_reads_most {kind p most:Nat} {s:ByteArray} {L:List Tok} {O M:List Int} (hk:kind≤2) (hR:TokensRight L) (hr:run O L=some (O ++ M)) (hl:(O ++ M).length≤most) (hB:Bytes M) (ht:kind=0→M.length≤2600) (hS:Stands s p (blkBits kind p (strOfNums M) L)):blockE s most (kind:Int) p O=.ok (O ++ M,p+(blkBits kind p (strOfNums M) L).length):=by
 by_cases h0:kind=0
 ·subst h0
  have hS':Stands s p (storedBits p (strOfNums M)):=hS
  have hsz:(strOfNums M).size=M.length:=strOfNums_size M
  have hnb:numsOf (strOfNums M)=M:=BitsMath.nums_back (fun i=>by have:=getD_byte hB i; omega)
  have h:=stored_stand (s:=s) (most:=most) (O:=O) (by have:=ht rfl; omega) (by rw [List.length_append] at hl; omega) hS'
  rw[hnb] at h
  unfold blockE
  rw[if_pos (by rfl)]
  exact h
 ·by_cases h1:kind=1
  ·subst h1
   have hS':Stands s p (bodyBits fixed1 288 fixed2 32 L):=hS
   exact fixed_stand hR.2 hr hl hS'
  ·obtain rfl:kind=2:=by omega
   have hS':Stands s p (partBits (lensP L) ++ bodyBits (lenA L) (sizeA L) (lenB L) (sizeB L) L):=hS
   exact woven_stand hR hr hl hS'
def Ext (o:ByteArray×Nat) (s:ByteArray):Prop:=o.1.size≤s.size∧∀ i,i < o.2→bit s i=bit o.1 i
theorem one_more {kind:Nat} {o o':ByteArray×Nat} {L:List Tok} {O M:List Int} {last:Bool} (hk:kind≤2) (ho:outB o.1 o.2=true) (hR:TokensRight L) (hr:run O L=some (O ++ M)) (hB:Bytes M) (ht:kind=0→M.length≤2600) (hb:blkOut kind o.1 o.2 (strOfNums M) L last=some o'):
  outB o'.1 o'.2=true∧(∀ s,Ext o' s→Ext o s)∧∀ s most m Ty,Ext o' s→(O ++ M).length≤most→blocksF s most (m+1) o.2 O Ty=if last then .ok (O ++ M,o'.2,Ty ++ [(kind:Int)]) else blocksF s most m o'.2 (O ++ M) (Ty ++ [(kind:Int)]):=by
 have s2:(strOfNums M).size=M.length:=strOfNums_size M
 rw[blkOut_bits hk ho hR (fun h=>by rw [s2]; exact ht h)] at hb
 have h01:Bits01 (headBits kind last ++ blkBits kind (o.2+3) (strOfNums M) L):=(headBits_01 _ _).append (blkBits_01 _ _ _ _)
 obtain⟨S2,K2⟩:=bits_stand hb h01
 obtain⟨r1,r2,r3,_⟩:=bitsOut_right hb h01
 obtain⟨g1,g2,g3,g4⟩:=fits_of_outB _ _ r1
 obtain⟨f1,f2,f3,f4⟩:=fits_of_outB _ _ ho
 have r2':o'.2=o.2+(3+(blkBits kind (o.2+3) (strOfNums M) L).length):=by
  rw[List.length_append,headBits_length] at r2
  exact r2
 refine⟨r1,fun s hs=>⟨?_,fun i hi=>?_⟩,fun s most m Ty hs hl=>?_⟩
 ·have:=hs.1
  omega
 ·rw[hs.2 i (by omega)]
  exact K2 i hi
 ·have S3:Stands s o.2 (headBits kind last ++ blkBits kind (o.2+3) (strOfNums M) L):=Stands.kept S2 (by rw [List.length_append,headBits_length]; show o.2+_≤o'.2; omega) hs.1 hs.2
  obtain⟨a1,a2,a3,a4⟩:=head_reads hk S3
  have b1:=block_reads_most (most:=most) hk hR hr hl hB ht a4
  rw[blocksF,if_pos a1,a3,b1,a2]
  dsimp only
  rw[show o.2+3+(blkBits kind (o.2+3) (strOfNums M) L).length=o'.2 by omega]
  cases last
  ·rw[if_pos (by rfl),if_neg (by decide)]
  ·rw[if_neg (by decide),if_pos rfl]
theorem best_kind {s:ByteArray} {c:Int} {t:ByteArray} {L:List Tok} {last:Bool} {o:ByteArray×Nat} (h:bestOut s c t L last=some o):∃ kind,kind≤2∧blkOut kind s c t L last=some o:=by
 have key:∀ x y:Option (ByteArray×Nat),better x y=some o→x=some o∨y=some o:=by
  intro x y hxy
  cases x with
  | none=>exact .inr (by cases y <;> exact hxy)
  | some a=>
   cases y with
   | none=>exact .inl hxy
   | some b=>
    by_cases q:b.2 < a.2
    ·exact .inr (by rw [show better (some a) (some b)=some b from if_pos q] at hxy; exact hxy)
    ·exact .inl (by rw [show better (some a) (some b)=some a from if_neg q] at hxy; exact hxy)
 unfold bestOut at h
 rcases key _ _ h with h | h
 ·rcases key _ _ h with h | h
  ·rcases key _ _ h with h | h
   ·cases h
   ·exact⟨0,by omega,h⟩
  ·exact⟨1,by omega,h⟩
 ·exact⟨2,by omega,h⟩
theorem whole_block {kind most:Nat} {t:ByteArray} {L:List Tok} {o:ByteArray×Nat} (hk:kind≤2) (hR:TokensRight L) (hr:run [] L=some (numsOf t)) (ht:t.size≤2600) (hb:blkOut kind ⟨#[]⟩ 0 t L true=some o) (s:ByteArray) (hs:Ext o s) (hm:t.size≤most) (hm2:most≤12000) (hsz:s.size≤12000):inflateE s most=.ok (numsOf t,o.2,[(kind:Int)])∧outB o.1 o.2=true:=by
 have hl:=numsOf_length t
 have hB:Bytes (numsOf t):=by
  intro x hx
  obtain⟨b,_,rfl⟩:=List.mem_map.mp hx
  have:=b.toNat_lt
  omega
 have hst:strOfNums (numsOf t)=t:=str_nums t
 have e0:((0:Nat):Int)=0:=rfl
 rw[← hst,← e0] at hb
 obtain⟨r1,_,r3⟩:=one_more (o:=(⟨#[]⟩,0)) (O:=[]) hk empty_ok hR (by rw [List.nil_append]; exact hr) hB (fun _=>by omega) hb
 refine⟨?_,r1⟩
 unfold inflateE
 rw[if_pos ⟨hsz,by omega,by omega⟩,Int.toNat_natCast,r3 s most (8 * s.size) [] hs (by rw [List.nil_append]; omega),if_pos rfl]
 rfl
theorem nums_cut (t:ByteArray) (a b:Nat):numsOf (t.extract a b)=((numsOf t).take b).drop a:=by
 unfold numsOf
 rw[ByteArray.data_extract,Array.toList_extract,List.extract_eq_take_drop,List.map_take,List.map_drop,List.drop_take]
theorem part_run {t:ByteArray} {L:List Tok} (hr:run [] L=some (numsOf t)) (k:Nat):run [] (L.take (60 * k))=some ((numsOf t).take (off L k)):=by
 have h:=run_app (L.take (60 * k)) (L.drop (60 * k)) []
 rw[List.take_append_drop,hr] at h
 cases e:run [] (L.take (60 * k)) with
 | none=>rw [e] at h; cases h
 | some A=>
  rw[e] at h
  obtain⟨M,hM,_⟩:=run_grow h.symm
  have hs:=run_size e
  have hl:A.length=off L k:=by rw [hs]; show 0+sizeL _=sizeL _; omega
  rw[hM,← hl,List.take_left]
theorem part_next {t:ByteArray} {L:List Tok} (hr:run [] L=some (numsOf t)) (k:Nat):run ((numsOf t).take (off L k)) (prt L k)=some ((numsOf t).take (off L (k+1))):=by
 have h:=run_app (L.take (60 * k)) (prt L k) []
 have e:L.take (60 * k) ++ prt L k=L.take (60 * (k+1)):=by
  unfold prt
  rw[show 60 * (k+1)=60 * k+60 by omega,List.take_add]
 rw[e,part_run hr,part_run hr] at h
 exact h.symm
theorem nums_bytes (s:ByteArray):Bytes (numsOf s):=by
 intro x hx
 obtain⟨b,_,rfl⟩:=List.mem_map.mp hx
 have:=b.toNat_lt
 omega
theorem prt_right {L:List Tok} (hR:TokensRight L) (k:Nat):TokensRight (prt L k):=by
 refine⟨?_,fun u hu=>hR.2 u (List.mem_of_mem_drop (List.mem_of_mem_take hu))⟩
 unfold prt
 rw[List.length_take]
 omega
section
variable {t:ByteArray} {L:List Tok}
theorem parts_reads (hr:run [] L=some (numsOf t)) (hz:sizeL L=t.size) (ht:t.size≤2600) (hn:L.length≤t.size) (hR:TokensRight L):∀ k,k < partsN L→∀ o,partsSt t L k=some o→outB o.1 o.2=true∧∃ Ty,∀ s most m,Ext o s→t.size≤most→blocksF s most (m+k) 0 [] []=blocksF s most m o.2 ((numsOf t).take (off L k)) Ty
 | 0,_,o,h=>by
  cases h
  refine⟨empty_ok,[],fun s most m _ _=>?_⟩
  rw[off_zero]
  rfl
 | k+1,hk,o',h=>by
  obtain⟨o,h1,h2,_⟩:=parts_some hz ht hn k (by omega)
  obtain⟨_,Ty,hT⟩:=parts_reads hr hz ht hn hR k (by omega) o h1
  have h':bestOut o.1 (o.2:Int) (t.extract (off L k) (off L (k+1))) (prt L k) (lastP L k)=some o':=by
   have h3:(partsSt t L k).bind (fun o=>bestOut o.1 (o.2:Int) (t.extract (off L k) (off L (k+1))) (prt L k) (lastP L k))=some o':=h
   rw[h1] at h3
   exact h3
  obtain⟨kind,hk2,hb⟩:=best_kind h'
  have hlast:lastP L k=false:=by
   unfold lastP partsN at *
   simp
   omega
  have hM:(numsOf t).take (off L (k+1))=(numsOf t).take (off L k) ++ numsOf (t.extract (off L k) (off L (k+1))):=by
   rw[nums_cut]
   have:=off_next L k
   have e:(numsOf t).take (off L k)=((numsOf t).take (off L (k+1))).take (off L k):=by rw [List.take_take,Nat.min_eq_left (by omega)]
   rw[e,List.take_append_drop]
  obtain⟨r1,r2,r3⟩:=one_more (O:=(numsOf t).take (off L k)) (M:=numsOf (t.extract (off L k) (off L (k+1)))) hk2 h2 (prt_right hR k) (by rw [← hM]; exact part_next hr k) (nums_bytes _) (fun _=>by rw [numsOf_length,cut_size t (by have:=off_le L (k+1); omega)]; have:=off_le L (k+1); omega) (by rw [str_nums]; exact hb)
  refine⟨r1,Ty ++ [(kind:Int)],fun s most m hs hm=>?_⟩
  have hlen:((numsOf t).take (off L k) ++ numsOf (t.extract (off L k) (off L (k+1)))).length≤most:=by
   rw[← hM,List.length_take,numsOf_length]
   omega
  rw[show m+(k+1)=(m+1)+k by omega,hT s most (m+1) (r2 s hs) hm,r3 s most m Ty hs hlen,hlast,if_neg (by decide),← hM]
end
end StandMath
end
end Go.Proofs.YtklpiihnbokkkaaGreatDoor
