/-
  Texts of the proof, put together.
-/
import Derived.Test.YtkpbfmdnjnohlaaGreatTk35
import Derived.Shelf.Pu.Clone
namespace Go.Proofs.YtkpbfmdnjnohlaaGreat
section
open Go.RowKit Go.Joins OutMath PutMath RastMath HeadMath
theorem four_as {v v':Nat→Int} {w w':World} {e:Ending} (h:Four v w e w') (hv:∀ k,k < 4→v k=v' k):Four v' w e w':=by
 obtain⟨g,cap,h1,h2,h3,h4⟩:=h
 exact⟨g,cap,h1,fun k hk=>by rw [h2 k hk,hv k hk],h3,h4⟩
theorem clB_like {n cn:Nat} {C s:Nat→Int} (hn:0 < n) (hcn:cn=0∨cn=n):clB cn C s n=true↔LikeI n cn s C:=by
 unfold clB LikeI
 simp only [Bool.and_eq_true,decide_eq_true_eq,List.all_eq_true,List.mem_range]
 constructor
 ·rintro⟨h1,h2⟩
  exact⟨by omega,fun i hi=>(h2 i hi).symm⟩
 ·rintro⟨h1,h2⟩
  exact⟨by omega,fun i hi=>(h2 i hi).symm⟩
set_option maxRecDepth 100000 in
set_option maxHeartbeats 1600000 in
theorem specPixel_any (p:Pic) (q:PicA) (at':Nat) (w:World) (hP:PngIn w p q) (hZ:PngSz p) (hR:PngR p) (ha:at' < pixN p):
  Calls Tryz.prog 56 #[pngV p q,.int .i64 (at':Int)] w (Four (pixV p at') w):=by
 obtain⟨d,hd,h5,hp2⟩:=p2_hd hR
 have hsm:∀ i,i < chanN p.hc→0≤smq p at' i∧smq p at' i≤65535:=fun i hi=>by
  obtain⟨_,h1,h2,_⟩:=smq_in hR ha hi
  rw[hd,Int.toNat_natCast] at h2
  omega
 have hD:=hR.1.1.2.2
 have hn1:0 < chanN p.hc:=by
  have:=chan_pos hD
  unfold chanN
  omega
 have hone:=smq_in hR ha hn1
 have hlast:=smq_in hR ha (show chanN p.hc - 1 < chanN p.hc by omega)
 obtain⟨g,off,hsa,hg,hcell⟩:∃ g off,q.sa=some ⟨g,off,none⟩∧g < w.heap.size∧∀ j,j < p.sn→w.cell? ⟨g,off+j,none⟩=some (.int .i64 (p.S j)):=by
  rcases hP.s with h | h
  ·omega
  ·exact h
 have hs:∀ i,i < chanN p.hc→w.cell? ⟨g,off+at' * chanN p.hc+i,none⟩=some (.int .i64 (smq p at' i)):=fun i hi=>by
  rw[Nat.add_assoc]
  exact hcell _ (smq_in hR ha hi).1
 have hcl:clearB p at'=true↔LikeI (chanN p.hc) p.cn (fun k=>smq p at' k) p.C:=(clearB_iff p at').trans Iff.rfl
 have hIn:=hR.2.2.2.1
 have hFits:=hR.2.1
 have hClr:=hR.2.2.1
 have hcap:=hP.capped.1
 have hsz:=hZ.s
 obtain⟨hw,hh,hd',hc',lace,tn,T,cn,C,rw',rh,rc,rd,sn,S,kn,K⟩:=p
 obtain⟨ta,tc,ca,cc,sa,sc,ka,kc⟩:=q
 have hT:RgbCame w ta tn T:=hP.t
 have hC:Came w ca cn C:=hP.c
 simp only [] at hd hD hIn hFits hClr hcap hsz hsa hone hlast
 subst hd hsa
 have hsmall:∀ n,chanN hc'=n→∀ i,i < n→w.cell? ⟨g,off+at' * n+i,none⟩=some (.int .i64 (smq ⟨hw,hh,(d:Int),hc',lace,tn,T,cn,C,rw',rh,rc,rd,sn,S,kn,K⟩ at' i))∧0≤smq ⟨hw,hh,(d:Int),hc',lace,tn,T,cn,C,rw',rh,rc,rd,sn,S,kn,K⟩ at' i∧smq ⟨hw,hh,(d:Int),hc',lace,tn,T,cn,C,rw',rh,rc,rd,sn,S,kn,K⟩ at' i≤65535:=fun n hn i hi=>by
  subst hn
  exact⟨hs i hi,hsm i hi⟩
 have hend:∀ n,chanN hc'=n→at' * n+n≤sn:=fun n hn=>by
  subst hn
  have h1:at' * chanN hc'+(chanN hc' - 1) < sn:=hlast.1
  have h2:0 < chanN hc':=hn1
  omega
 have hc5:hc'=0∨hc'=3∨hc'=2∨hc'=4∨hc'=6:=by
  rcases hD with ⟨h,_⟩ | ⟨h,_⟩ | ⟨h | h | h,_⟩ <;> omega
 rcases hc5 with rfl | rfl | rfl | rfl | rfl
 ·have hcn:cn=0∨cn=1:=by
   rcases hClr with h | h
   ·exact .inl h
   ·rcases h.2 with ⟨_,q,_⟩ | ⟨q,_⟩ | ⟨q,_⟩
    ·exact .inr q
    ·omega
    ·omega
  refine (specPix_0 hw hh d lace tn cn C rw' rh rc rd sn kn ta ca ka g off tc cc sc kc at' (at' * 1) _ w hg (hsmall 1 (by decide)) (hend 1 (by decide)) rfl hsz hcap h5 hC hcn _ rfl).mono fun e w' h=>four_as h fun k hk=>?_
  have hB:clB cn C (fun k=>smq ⟨hw,hh,(d:Int),0,lace,tn,T,cn,C,rw',rh,rc,rd,sn,S,kn,K⟩ at' k) 1=clearB ⟨hw,hh,(d:Int),0,lace,tn,T,cn,C,rw',rh,rc,rd,sn,S,kn,K⟩ at':=Bool.eq_iff_iff.mpr ((clB_like (by omega) hcn).trans hcl.symm)
  simp[pixV,← hB]
 ·have hs0:=hIn rfl _ hone.1
  obtain⟨pl,hpe⟩:∃ pl:Nat,smq ⟨hw,hh,(d:Int),3,lace,tn,T,cn,C,rw',rh,rc,rd,sn,S,kn,K⟩ at' 0=(pl:Int):=⟨_,(Int.toNat_of_nonneg hone.2.1).symm⟩
  have hpl:pl < tn:=by
   have:smq ⟨hw,hh,(d:Int),3,lace,tn,T,cn,C,rw',rh,rc,rd,sn,S,kn,K⟩ at' 0 < (tn:Int):=hs0
   omega
  have hTR:TableR T tn:=by
   have:=hFits
   unfold FitsR at this
   rw[if_pos rfl] at this
   exact this.1
  obtain⟨gT,oT,ha2,hgT,hcT⟩:∃ g off,ta=some ⟨g,off,none⟩∧g < w.heap.size∧∀ j,j < tn→w.cell? ⟨g,off+j * 3,none⟩=some (.int .i64 (T j).1)∧w.cell? ⟨g,off+j * 3+1,none⟩=some (.int .i64 (T j).2.1)∧w.cell? ⟨g,off+j * 3+2,none⟩=some (.int .i64 (T j).2.2):=by
   rcases hT with h | h
   ·omega
   ·exact h
  subst ha2
  have hcov:0≤(if (pl:Int) < (cn:Int) then C pl else 255)∧(if (pl:Int) < (cn:Int) then C pl else 255)≤255:=by
   split
   ·next h=>
    rcases hClr with h0 | h0
    ·have h0':cn=0:=h0
     omega
    ·rcases h0.2 with ⟨q,_⟩ | ⟨q,_⟩ | ⟨_,_,q⟩
     ·omega
     ·omega
     ·have:=q pl (by omega)
      rw[p2_8] at this
      omega
   ·omega
  have h1:=(hsmall 1 (by decide) 0 (by omega)).1
  rw[hpe,Nat.mul_one,Nat.add_zero] at h1
  have h2:=hend 1 (by decide)
  obtain⟨t0,t1,t2⟩:=hcT pl hpl
  refine (specPix_3 hw hh d lace tn T cn C rw' rh rc rd sn kn ca ka g off gT oT tc cc sc kc at' pl _ w hg h1 (by omega) hsz hcap hgT t0 t1 t2 hpl (hTR.2 pl hpl) hC rfl hcov.1 hcov.2).mono fun e w' h=>four_as h fun k hk=>?_
  have hcv:coverT ⟨hw,hh,(d:Int),3,lace,tn,T,cn,C,rw',rh,rc,rd,sn,S,kn,K⟩ (pl:Int)=if (pl:Int) < (cn:Int) then C pl else 255:=by
   unfold coverT
   rw[Int.toNat_natCast]
  simp[pixV,hpe,hcv]
 ·have hcn:cn=0∨cn=3:=by
   rcases hClr with h | h
   ·exact .inl h
   ·rcases h.2 with ⟨q,_⟩ | ⟨_,q,_⟩ | ⟨q,_⟩
    ·omega
    ·exact .inr q
    ·omega
  refine (specPix_2 hw hh d lace tn cn C rw' rh rc rd sn kn ta ca ka g off tc cc sc kc at' (at' * 3) _ w hg (hsmall 3 (by decide)) (hend 3 (by decide)) rfl hsz hcap h5 hC hcn _ rfl).mono fun e w' h=>four_as h fun k hk=>?_
  have hB:clB cn C (fun k=>smq ⟨hw,hh,(d:Int),2,lace,tn,T,cn,C,rw',rh,rc,rd,sn,S,kn,K⟩ at' k) 3=clearB ⟨hw,hh,(d:Int),2,lace,tn,T,cn,C,rw',rh,rc,rd,sn,S,kn,K⟩ at':=Bool.eq_iff_iff.mpr ((clB_like (by omega) hcn).trans hcl.symm)
  simp[pixV,← hB]
 ·have hcn:cn=0:=by
   rcases hClr with h | h
   ·exact h
   ·rcases h.2 with ⟨q,_⟩ | ⟨q,_⟩ | ⟨q,_⟩ <;> omega
  refine (specPix_4 hw hh d lace tn cn C rw' rh rc rd sn kn ta ca ka g off tc cc sc kc at' (at' * 2) _ w hg (hsmall 2 (by decide)) (hend 2 (by decide)) rfl hsz hcap h5 hC (.inl hcn) _ rfl).mono fun e w' h=>four_as h fun k hk=>?_
  simp[pixV]
 ·have hcn:cn=0:=by
   rcases hClr with h | h
   ·exact h
   ·rcases h.2 with ⟨q,_⟩ | ⟨q,_⟩ | ⟨q,_⟩ <;> omega
  refine (specPix_6 hw hh d lace tn cn C rw' rh rc rd sn kn ta ca ka g off tc cc sc kc at' (at' * 4) _ w hg (hsmall 4 (by decide)) (hend 4 (by decide)) rfl hsz hcap h5 hC (.inl hcn) _ rfl).mono fun e w' h=>four_as h fun k hk=>?_
  simp[pixV]
end
section
open Go.RowKit Go.Joins
def ivals (l:List Int):List Value:=l.map fun x=>Value.int .i64 x
theorem ivals_length (l:List Int):(ivals l).length=l.length:=by simp [ivals]
theorem ivals_app (xs ys:List Int):ivals (xs ++ ys)=ivals xs ++ ivals ys:=by simp [ivals]
theorem ivals_get (l:List Int) (i:Nat) (h:i < l.length):(ivals l)[i]?=some (.int .i64 (l.getD i 0)):=by
 unfold ivals
 rw[List.getElem?_map,List.getElem?_eq_getElem h,List.getD_eq_getElem?_getD,List.getElem?_eq_getElem h]
 rfl
theorem ivals_one (l:List Int):∀ u∈ivals l,u.oneCell'=true:=by
 intro u hu
 obtain⟨x,_,rfl⟩:=List.mem_map.mp hu
 rfl
def NumRow (w:World) (S:Nat) (v:Value) (l:List Int):Prop:=w.ownsRow S 3 1 v l.length (ivals l)
theorem NumRow.empty (w:World) (S:Nat) (h:S≤w.heap.size):NumRow (w.alloc (.cells #[] 3)) S (.slice (some ⟨w.heap.size,0,none⟩) 0 0) []:=
 ⟨rfl,.inr ⟨w.heap.size,0,#[],rfl,h,heap_alloc_new w _,Nat.le_refl _,Nat.zero_le _,rfl,rfl⟩⟩
theorem NumRow.form {w:World} {S:Nat} {v:Value} {l:List Int} (h:NumRow w S v l):∃ a c,v=.slice a l.length c∧(a=none→c=0)∧l.length≤c∧Came w a l.length (fun i=>l.getD i 0)∧∀ ad,a=some ad→∀ j u,(ivals l)[j]?=some u→w.cell? (ad.add j)=some u:=by
 rcases h.2 with ⟨rfl,h0⟩ | ⟨g,cap,cur,rfl,hb,hg,hc,hm,hs,ht⟩
 ·exact⟨none,0,by rw [h0],fun _=>rfl,by omega,.inl h0,fun ad e=>by cases e⟩
 ·refine⟨_,cap,rfl,(fun e=>by cases e),hc,.inr ⟨g,0,rfl,block_lt hg,fun j hj=>?_⟩,fun ad e j u hu=>?_⟩
  ·rw[Nat.zero_add,h.cellAt j (by omega)]
   exact ivals_get l j hj
  ·cases e
   have hj:j < l.length:=by
    rcases Nat.lt_or_ge j l.length with k | k
    ·exact k
    ·rw[List.getElem?_eq_none (by rw [ivals_length]; exact k)] at hu; cases hu
   rw[Addr.add_lit,Nat.zero_add,h.cellAt j (by omega)]
   exact hu
theorem NumRow.called {w w':World} {S:Nat} {v:Value} {l:List Int} (h:NumRow w S v l) (hb:Below w.heap.size w w'):NumRow w' S v l:=by
 refine⟨h.1,?_⟩
 rcases h.2 with h | ⟨g,cap,cur,rfl,h1,h2,h3⟩
 ·exact .inl h
 ·exact .inr ⟨g,cap,cur,rfl,h1,(hb.block g (block_lt h2)).trans h2,h3⟩
end
section
open Go.RowKit Go.Joins
theorem nums_append1 {w:World} {S:Nat} {v:Value} {xs:List Int} {ops:Array Oper} {rest:List Oper} {o:Oper} {a:Act} {Q:Exit→Act→World→Prop} (hgd:o.guard=none) (s x:Operand)
  (ho:o.op=.call { callee:=.builtin .append,args:=#[s,x],argTypes:=#[25,25] }) (hs:a.eval s=v) (h:NumRow w S v xs) (g c:Nat) (y:Int) (hx:a.eval x=.slice (some ⟨g,0,none⟩) 1 c) (hy:w.cell? ⟨g,0,none⟩=some (.int .i64 y))
  (h63:xs.length≤100000) (hS:S≤w.heap.size)
  (hK:∀ v' w',NumRow w' S v' (xs ++ [y])→w.grownBy w' v.ownBlock→(v'.ownBlock=v.ownBlock∨v'.ownBlock=some w.heap.size)→wpList Tryz.prog ops Q rest (a.put o.dst v') w'):wpList Tryz.prog ops Q (o :: rest) a w:=by
 obtain⟨i0,hi0,hz0,hz1,hz2⟩:=info_parts info_int
 refine wpList_append_own_at w hgd s x _ ho S 3 i0 _ 1 8 Tryz.underlying25 hi0 hz0 hz1 hz2 rfl (by omega) v _ _ hs h ⟨g,0,none⟩ 1 c (ivals [y]) hx rfl (fun j u hu=>?_) (ivals_one _) (by unfold maxLen; omega) (by omega) hS ?_
 ·cases j with
  | zero=>
   simp[ivals] at hu
   rw[← hu]
   exact hy
  | succ j=>simp [ivals] at hu
 ·intro v' w' hown hg _ hk
  refine hK v' w' ?_ hg hk
  show w'.ownsRow S 3 1 v' (xs ++ [y]).length (ivals (xs ++ [y]))
  rw[List.length_append,ivals_app]
  exact hown
end
section
open Go.RowKit Go.Joins
theorem sl_of_num {w:World} {S:Nat} {a:Option Addr} {n c:Nat} {O:List Int} (h:NumRow w S (.slice a n c) O) (hn:n=O.length):SL w S a n c (fun j=>O.getD j 0):=by
 rcases Nat.eq_zero_or_pos n with h0 | h0
 ·exact .inl h0
 ·obtain⟨g,_,ho⟩:=own_of_ownsRow h (by omega)
  obtain⟨cap,e⟩:=ho.form
  obtain⟨e1,e2,e3⟩:=Value.slice.inj e
  subst e1 e3
  have e4:fints (fun j=>O.getD j 0) n=ivals O:=by
   refine List.ext_getElem? (fun i=>?_)
   rcases Nat.lt_or_ge i O.length with q | q
   ·rw[ivals_get O i q,List.getElem?_eq_getElem (by rw [fints_length]; omega),fints_get]
   ·rw[List.getElem?_eq_none (by rw [fints_length]; omega),List.getElem?_eq_none (by rw [ivals_length]; exact q)]
  refine .inr ⟨g,rfl,?_⟩
  unfold IOwn
  rw[e4]
  exact ho
end
section
open Go.RowKit Go.Joins
theorem SL.congr {w:World} {base:Nat} {a:Option Addr} {n c:Nat} {f g:Nat→Int} (h:SL w base a n c f) (e:∀ i,i < n→f i=g i):SL w base a n c g:=by
 rcases h with h | ⟨k,ea,ho⟩
 ·exact .inl h
 ·exact .inr ⟨k,ea,ho.congr e⟩
theorem NumRow.max {w:World} {S:Nat} {a:Option Addr} {n c:Nat} {l:List Int} (h:NumRow w S (.slice a n c) l):n≤c∧c≤maxLen:=by
 rcases h.2 with ⟨e,_⟩ | ⟨g,cap,cur,e,_,_,h1,h2,_⟩
 ·cases e; exact⟨Nat.le_refl _,by unfold maxLen; omega⟩
 ·cases e; exact⟨h1,h2⟩
end
section
open Go.RowKit Go.Joins HeadMath
def PxCame (w:World) (a:Option Addr) (n:Nat) (V:Nat→Q4):Prop:=n=0∨∃ g off,a=some ⟨g,off,none⟩∧g < w.heap.size∧∀ j,j < n→w.cell? ⟨g,off+j * 4,none⟩=some (.int .i64 (V j).1)∧w.cell? ⟨g,off+j * 4+1,none⟩=some (.int .i64 (V j).2.1)∧w.cell? ⟨g,off+j * 4+2,none⟩=some (.int .i64 (V j).2.2.1)∧w.cell? ⟨g,off+j * 4+3,none⟩=some (.int .i64 (V j).2.2.2)
theorem cvL_get (V:Nat→Q4) (n j:Nat) (h:j < n):(cvL V n).getD j 0=(V j).2.2.2 / 257:=by
 rw[List.getD_eq_getElem?_getD,List.getElem?_eq_getElem (by rw [cvL_length]; exact h)]
 simp[cvL]
theorem NumRow.cut {w:World} {S:Nat} {a:Option Addr} {n c:Nat} {L:List Int} (h:NumRow w S (.slice a n c) L) (m:Nat) (hm:m≤L.length) (hn:n=L.length):NumRow w S (.slice a m c) (L.take m):=by
 have hl:(L.take m).length=m:=by rw [List.length_take]; omega
 refine⟨by rw [ivals_length,hl,Nat.mul_one],?_⟩
 rcases h.2 with ⟨e,h0⟩ | ⟨g,cap,cur,e,h1,h2,h3,h4,h5,h6⟩
 ·cases e
  exact .inl ⟨by rw [show m=0 by omega],by omega⟩
 ·cases e
  refine .inr ⟨g,c,cur,by rw [hl],h1,h2,by omega,h4,h5,?_⟩
  rw[hl,Nat.mul_one]
  have e2:ivals (L.take m)=(ivals L).take m:=by unfold ivals; rw [List.map_take]
  rw[e2,← h6,List.take_take,Nat.mul_one,Nat.min_eq_left hm]
def TofI (w u:World) (V:Nat→Q4) (x y:Value) (j:Nat):Prop:=u.ownsRow w.heap.size 74 3 x (tbL V j).length (rgbTcells (tbL V j))∧NumRow u w.heap.size y (cvL V j)∧Below w.heap.size w u
def TofPost (n:Nat) (V:Nat→Q4) (w:World) (e:Ending) (w':World):Prop:=∃ ta tc ca cc,e=.returned (.tuple #[.slice ta n tc,.slice ca (trimC (cvL V n) n) cc])∧RgbSL w' w.heap.size ta n (fun j=>((V j).1 / 257,(V j).2.1 / 257,(V j).2.2.1 / 257))∧SL w' w.heap.size ca (trimC (cvL V n) n) cc (fun j=>(V j).2.2.2 / 257)∧Below w.heap.size w w'
theorem row_other {w w':World} {S S':Nat} {x y:Value} {L:List Value} {n k k2:Nat} {L2:List Value} {n2:Nat} {t t2:TypeId} (hx:w.ownsRow S t k x n L) (hy:w.ownsRow S' t2 k2 y n2 L2) (ht:t≠t2) (hg:w.grownBy w' y.ownBlock):w'.ownsRow S t k x n L:=by
 refine⟨hx.1,?_⟩
 rcases hx.2 with h | ⟨g,cap,cur,e,h1,h2,h3⟩
 ·exact .inl h
 ·refine .inr ⟨g,cap,cur,e,h1,(hg.block g (block_lt h2) (fun q=>?_)).trans h2,h3⟩
  rcases hy.2 with ⟨h,_⟩ | ⟨g',cap',cur',e',_,h2',_⟩
  ·rw[h] at q; simp [Value.ownBlock] at q
  ·rw[e'] at q
   simp[Value.ownBlock] at q
   rw[← q,h2] at h2'
   cases h2'
   exact ht rfl
theorem tof_end {w u:World} {V:Nat→Q4} {n m tc cc:Nat} {ta ca:Option Addr} (h:TofI w u V (.slice ta n tc) (.slice ca n cc) n) (hm:trimC (cvL V n) n=m):TofPost n V w (.returned (.tuple #[.slice ta n tc,.slice ca m cc])) u:=by
 have hle:=trimC_le (cvL V n) n
 subst hm
 refine⟨ta,tc,ca,cc,rfl,?_,?_,h.2.2⟩
 ·rcases Nat.eq_zero_or_pos n with h0 | h0
  ·exact .inl h0
  ·obtain⟨h1,h2 | ⟨g,cap,cur,e,k1,k2,k3,k4,k5,k6⟩⟩:=h.1
   ·have:=h2.2
    rw[tbL_length] at this
    omega
   ·obtain⟨e1,_,_⟩:=Value.slice.inj e
    rw[tbL_length] at k3 k6
    refine .inr ⟨g,e1,k1,cur,k2,by omega,fun j hj=>?_⟩
    have hg:=rgbTcells_get (tbL V n) j (by rw [tbL_length]; exact hj)
    have ht:(tbL V n).getD j (0,0,0)=((V j).1 / 257,(V j).2.1 / 257,(V j).2.2.1 / 257):=by
     rw[List.getD_eq_getElem?_getD,List.getElem?_eq_getElem (by rw [tbL_length]; exact hj)]
     simp[tbL]
    rw[ht,← k6] at hg
    have tk:∀ i,i < n * 3→(List.take (n * 3) cur.toList)[i]?=cur[i]?:=fun i hi=>by
     rw[List.getElem?_take,if_pos hi,Array.getElem?_toList]
    rw[tk _ (by omega),tk _ (by omega),tk _ (by omega)] at hg
    exact hg
 ·have hc:=NumRow.cut h.2.1 (trimC (cvL V n) n) (by rw [cvL_length]; exact hle) (cvL_length V n).symm
  refine (sl_of_num hc (by rw [List.length_take,cvL_length]; omega)).congr fun i hi=>?_
  rw[List.getD_eq_getElem?_getD,List.getElem?_take,if_pos hi,← List.getD_eq_getElem?_getD]
  exact cvL_get V n i (by omega)
set_option maxRecDepth 100000 in
set_option maxHeartbeats 3200000 in
theorem tableOf_any (a:Option Addr) (n cap:Nat) (V:Nat→Q4) (w:World) (hC:PxCame w a n V) (hn:n≤256) (hV:∀ j,j < n→(0≤(V j).1∧(V j).1≤65535)∧(0≤(V j).2.1∧(V j).2.1≤65535)∧(0≤(V j).2.2.1∧(V j).2.2.1≤65535)∧(0≤(V j).2.2.2∧(V j).2.2.2≤65535)):
  Calls Tryz.prog 59 #[.slice a n cap] w (TofPost n V w):=by
 have H0:Hid (TofI w w V (.slice none 0 0) (.slice none 0 0) 0):=⟨⟨rfl,.inl ⟨rfl,rfl⟩⟩,⟨rfl,.inl ⟨rfl,rfl⟩⟩,Below.refl _ _⟩
 have HC:=hid_of hC
 have HV:=hid_of hV
 clear hC hV
 go_enter Tryz.func59,Tryz.ntmps59
 go_wp2_with fail
 go_loopg [4,5,10] (n+1) (fun gk x y z u=>∃ j:Nat,j≤n∧z=.int .i64 j∧n - j≤gk∧Hid (TofI w u V x y j))
 case atStart=>exact⟨0,Nat.zero_le _,rfl,by omega,H0⟩
 case round=>
  clear H0
  obtain⟨j,hj,rfl,hk,hS⟩:=hrel
  by_cases hlt:j < n
  ·rcases HC.out with h0 | ⟨g,off,rfl,hg,hc⟩
   ·omega
   ·obtain⟨q0,q1,q2,q3⟩:=hc j hlt
    obtain⟨b0,b1,b2,b3⟩:=HV.out j hlt
    have c0:=(hS.out.2.2.cell (p:=⟨g,off+j * 4,none⟩) hg).trans q0
    have c1:=(hS.out.2.2.cell (p:=⟨g,off+j * 4+1,none⟩) hg).trans q1
    have c2:=(hS.out.2.2.cell (p:=⟨g,off+j * 4+2,none⟩) hg).trans q2
    have c3:=(hS.out.2.2.cell (p:=⟨g,off+j * 4+3,none⟩) hg).trans q3
    have hl2:g < wr.heap.size:=Nat.lt_of_lt_of_le hg hS.out.2.2.size
    have ET:Hid (tbL V (j+1)=tbL V j ++ [((V j).1 / 257,(V j).2.1 / 257,(V j).2.2.1 / 257)]):=tbL_succ V j
    have EC:Hid (cvL V (j+1)=cvL V j ++ [(V j).2.2.2 / 257]):=cvL_succ V j
    generalize (V j).1=x0 at c0 b0 ET
    generalize (V j).2.1=x1 at c1 b1 ET
    generalize (V j).2.2.1=x2 at c2 b2 ET
    generalize (V j).2.2.2=x3 at c3 b3 EC
    clear q0 q1 q2 q3 hc
    have HT:=hid_of (rgb_called (rgb_called hS.out.1 (bstart wr (.cells #[.int .i64 x0,.int .i64 x1,.int .i64 x2,.int .i64 x3] 104))) (bstart _ (.cells #[.int .i64 (x0 / 257),.int .i64 (x1 / 257),.int .i64 (x2 / 257)] 74)))
    have HN:=hid_of ((hS.out.2.1.called (bstart wr (.cells #[.int .i64 x0,.int .i64 x1,.int .i64 x2,.int .i64 x3] 104))).called (bstart _ (.cells #[.int .i64 (x0 / 257),.int .i64 (x1 / 257),.int .i64 (x2 / 257)] 74)))
    have HBl:=hid_of (bal (bal hS.out.2.2 (.cells #[.int .i64 x0,.int .i64 x1,.int .i64 x2,.int .i64 x3] 104)) (.cells #[.int .i64 (x0 / 257),.int .i64 (x1 / 257),.int .i64 (x2 / 257)] 74))
    have HPx:Hid (((wr.alloc (.cells #[.int .i64 x0,.int .i64 x1,.int .i64 x2,.int .i64 x3] 104)).alloc (.cells #[.int .i64 (x0 / 257),.int .i64 (x1 / 257),.int .i64 (x2 / 257)] 74)).heap[wr.heap.size]?=some (.cells #[.int .i64 x0,.int .i64 x1,.int .i64 x2,.int .i64 x3] 104 (0,0))):=((bstart _ _).block _ (by simp)).trans (heap_alloc_new wr _)
    have HSz:Hid (w.heap.size≤wr.heap.size):=hS.out.2.2.size
    clear hS
    go_wp2_with (at_builtin; refine rgbs_append_at (S:=w.heap.size) (xs:=tbL V j) (ys:=[(x0 / 257,x1 / 257,x2 / 257)]) rfl _ _ rfl rfl HT.out ⟨wr.heap.size+1,0,none⟩ 1 1 rfl rfl (rgbNews_tk _ _ _ _ (wr.heap.size+1) (by simp)) (by rw [tbL_length]; simp; omega) (by have:=HSz.out; simp; omega) ?_)
    intro v1 w1 y1 y2 y3
    have HT1:Hid (w1.ownsRow w.heap.size 74 3 v1 (tbL V (j+1)).length (rgbTcells (tbL V (j+1)))):=by
     rw[ET.out,List.length_append]
     exact y1
    have HN1:Hid (NumRow w1 w.heap.size u5 (cvL V j)):=row_other HN.out HT.out (by decide) y2
    have hpx:w1.heap[wr.heap.size]?=some (.cells #[.int .i64 x0,.int .i64 x1,.int .i64 x2,.int .i64 x3] 104 (0,0)):=(y2.block _ (block_lt HPx.out) (fun q=>by
     rcases HT.out.2 with ⟨h,_⟩ | ⟨g',cap',cur',e',_,h2',_⟩
     ·rw[h] at q; simp [Value.ownBlock] at q
     ·rw[e'] at q
      simp[Value.ownBlock] at q
      rw[← q,HPx.out] at h2'
      cases h2')).trans HPx.out
    have HB1:Hid (Below w.heap.size w w1):=HBl.out.grown y2 (by have:=HSz.out; simp; omega) (fun b hb=>(HT.out.lt b hb).1)
    have d3:=(cell_of_block hpx 3).trans rfl
    have dl3:=block_lt hpx
    have HSz1:Hid (w.heap.size≤w1.heap.size):=HB1.out.size
    clear y1 y2 y3 hpx HT HN HBl HPx ET
    go_wp2_with (at_builtin; refine nums_append1 (S:=w.heap.size) (xs:=cvL V j) rfl _ _ rfl rfl (HN1.out.called (bstart _ _)) w1.heap.size 1 (x3 / 257) rfl ((cell_of_block (heap_alloc_new w1 (.cells #[.int .i64 (x3 / 257)] 3)) 0).trans rfl) (by rw [cvL_length]; omega) (by have:=HSz1.out; simp; omega) ?_)
    intro v2 w2 y1 y2 y3
    have HS1:Hid (TofI w w2 V v1 v2 (j+1)):=⟨row_other (rgb_called HT1.out (bstart _ _)) (HN1.out.called (bstart _ _)) (by decide) y2,by rw [EC.out]; exact y1,(bal HB1.out _).grown y2 (by have:=HSz1.out; simp; omega) (fun b hb=>(HN1.out.lt b hb).1)⟩
    clear y1 y2 y3 HT1 HN1 HB1 EC
    go_wp2_with fail
    go_roundg (n - (j+1))
    case measure=>omega
    case rel=>exact⟨j+1,by omega,by go_num,Nat.le_refl _,HS1⟩
  ·obtain rfl:j=n:=by omega
   obtain⟨ca,cc,e5,hnone,_⟩:=hS.out.2.1.form
   rw[cvL_length] at e5
   obtain⟨ta,tc,e4,_⟩:∃ ta tc,u4=.slice ta j tc∧True:=by
    obtain⟨a',c',e,_⟩:=rgbTcame_of_own hS.out.1 rfl
    rw[tbL_length] at e
    exact⟨a',c',e,trivial⟩
   have HS:=hid_of hS.out
   subst e4 e5
   clear hS
   obtain⟨ca2,cc2,e6,_,_,hcame,_⟩:=HS.out.2.1.form
   obtain⟨rfl,hq,rfl⟩:=Value.slice.inj e6
   clear hq
   rw[cvL_length] at hcame
   have HCM:=hid_of hcame
   have HMX:=hid_of (HS.out.2.1.max).1
   clear hcame e6
   go_wp2_with fail
   go_loopw [5] (fun z u=>∃ m:Nat,m≤j∧z=.slice ca m cc∧Hid (trimC (cvL V j) j=trimC (cvL V j) m)∧u=wr) (fun z _=>match z with | .slice _ m _=>m | _=>0)
   case atStart=>exact⟨j,Nat.le_refl _,rfl,rfl,rfl⟩
   case round=>
    obtain⟨m,hm,rfl,hT,rfl⟩:=hrel
    have HT:=hid_of hT.out
    clear hT
    by_cases h0:m=0
    ·subst h0
     have HR:Hid (trimC (cvL V j) j=0):=HT.out
     clear HT
     go_wp2_with fail
     go_ret2
     exact tof_end HS.out HR.out
    ·obtain⟨k,rfl⟩:∃ k,m=k+1:=⟨m - 1,by omega⟩
     rcases HCM.out with h | ⟨g,off,rfl,hg,hc⟩
     ·omega
     ·have c0:wr.cell? ⟨g,off+k,none⟩=some (.int .i64 ((cvL V j).getD k 0)):=hc k (by omega)
      clear hc
      have kc:k≤cc:=by have:=HMX.out; omega
      have kc2:(k:Int)≤(cc:Int):=by omega
      have kc3:¬ (cc:Int) < (k:Int):=by omega
      have hk0:(k:Int)+1 - 1=(k:Int):=by omega
      have wk:IntKind.i64.wrap ((k:Int)+1 - 1)=(k:Int):=by rw [IntKind.wrap_i64]; omega
      have wk2:IntKind.i64.wrap (k:Int)=(k:Int):=by rw [IntKind.wrap_i64]; omega
      have hp:(0:Int) < (k:Int)+1:=by omega
      by_cases e:(cvL V j).getD k 0=255
      ·have HT2:Hid (trimC (cvL V j) j=trimC (cvL V j) k):=by
        show _=_
        rw[HT.out]
        show (if (cvL V j).getD k 0=255 then trimC (cvL V j) k else k+1)=_
        rw[if_pos e]
       have ne:((cvL V j).getD k 0 == 255)=true:=by simpa using e
       generalize (cvL V j).getD k 0=y at c0 ne
       clear e HT
       go_wp2_with fail
       go_roundw
       case rel=>exact⟨k,by omega,rfl,HT2,by first | rfl | trivial⟩
       case measure=>simp
      ·have HT2:Hid (trimC (cvL V j) j=k+1):=by
        show _=_
        rw[HT.out]
        show (if (cvL V j).getD k 0=255 then trimC (cvL V j) k else k+1)=_
        rw[if_neg e]
       have ne:((cvL V j).getD k 0 == 255)=false:=by simpa using e
       generalize (cvL V j).getD k 0=y at c0 ne
       clear e HT
       go_wp2_with fail
       go_ret2
       exact tof_end HS.out HT2.out
end
section
open Go.RowKit Go.Joins OutMath PutMath RastMath HeadMath ChunkMath
def MB (w:World) (A:Array Value) (w2 u:World):Prop:=MoP w A u∧Below w2.heap.size w2 u
theorem MB.called {w w2 u u':World} {A:Array Value} (h:MB w A w2 u) (hb:Below u.heap.size u u'):MB w A w2 u':=⟨h.1.called hb,bnext h.2 hb⟩
structure TK (w:World) (A:Array Value) (w2:World) (X:Nat) (O:Array Value) (a:Option Addr) (n:Nat) (F:Nat→Chk) (u:World):Prop where
 k:WK w A X O a n F u
 b:Below w2.heap.size w2 u
 lt:w2.heap.size≤X
theorem TK.set {w w2 u:World} {A O:Array Value} {X n:Nat} {a:Option Addr} {F:Nat→Chk} (h:TK w A w2 X O a n F u) (k:Nat) (v:Value):TK w A w2 X (O.setIfInBounds k v) a n F (u.setCell ⟨X,k,none⟩ v):=⟨h.k.set k v,h.b.setCell (p:=⟨X,k,none⟩) h.lt v,h.lt⟩
structure WX (w:World) (A:Array Value) (X:Nat) (O:Array Value) (r:Pic) (q:PicA) (u:World):Prop where
 p:WP w A r q u
 x:BoxAt u X O
 lt:w.heap.size+1 < X
theorem WX.set {w u:World} {A O:Array Value} {X:Nat} {r:Pic} {q:PicA} (h:WX w A X O r q u) (k:Nat) (v:Value):WX w A X (O.setIfInBounds k v) r q (u.setCell ⟨X,k,none⟩ v):=⟨⟨h.p.m.other X k v h.lt,h.p.l.put h.x k v⟩,h.x.put k v,h.lt⟩
end
section
open Go.RowKit Go.Joins
def renClone:Go.Shelf.Ren:=⟨fun _=>138,fun n=>match n with
 | 0=>0
 | 3=>3
 | 4=>4
 | 5=>5
 | 9=>9
 | 37=>120
 | _=>134,fun n=>n⟩
set_option maxRecDepth 100000 in
theorem clone_laid:LaysPu.n25 Tryz.prog renClone:=by
 constructor <;> first | kernel_rfl | exact fun w=>by kernel_rfl | exact fun w=>rfl
theorem implCloneLite (s:ByteArray) (w:World) (hs:s.size≤1048576):Calls Tryz.prog 138 #[.string s] w fun e w'=>e=.returned (.string s)∧Below w.heap.size w w':=AnyPu.stringslite_Clone clone_laid s w (by omega)
theorem implClone (s:ByteArray) (w:World) (hs:s.size≤1048576):Calls Tryz.prog 132 #[.string s] w fun e w'=>e=.returned (.string s)∧Below w.heap.size w w':=by
 go_enter Tryz.func132,Tryz.ntmps132
 go_wp2_with fail
 refine (implCloneLite s _ hs).mono ?_
 rintro e w1 ⟨rfl,hb⟩
 go_wp2_with fail
 go_ret
 exact⟨rfl,hb⟩
end
end Go.Proofs.YtkpbfmdnjnohlaaGreat
