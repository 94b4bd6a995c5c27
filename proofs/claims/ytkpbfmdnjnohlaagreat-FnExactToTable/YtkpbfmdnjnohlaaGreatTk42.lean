/-
  Texts of the proof, put together.
-/
import Derived.Test.YtkpbfmdnjnohlaaGreatTk41
import Derived.Test.YtkpbfmdnjnohlaaGreatTk24
namespace Go.Proofs.YtkpbfmdnjnohlaaGreat
section
open Go.RowKit Go.Joins OutMath PutMath RastMath HeadMath
theorem four_as {v v':Nat→Int} {w w':World} {e:Ending} (h:Four v w e w') (hv:∀ k,k < 4→v k=v' k):Four v' w e w':=by
 obtain⟨g,cap,h1,h2,h3,h4⟩:=h
 exact⟨g,cap,h1,fun k hk=>by rw [h2 k hk,hv k hk],h3,h4⟩
theorem clB_like {n cn:Nat} {C s:Nat→Int} (hn:0 < n) (hcn:cn=0∨cn=n):clB cn C s n=true↔LikeI n cn s C:=by
 unfold clB LikeI
 simp only [Bool.and_eq_true,decide_eq_true_eq,List.all_eq_true,List.mem_range]
 constructor
 ·rintro⟨h1,h2⟩
  exact⟨by omega,fun i hi=>(h2 i hi).symm⟩
 ·rintro⟨h1,h2⟩
  exact⟨by omega,fun i hi=>(h2 i hi).symm⟩
set_option maxRecDepth 100000 in
set_option maxHeartbeats 1600000 in
theorem specPixel_any (p:Pic) (q:PicA) (at':Nat) (w:World) (hP:PngIn w p q) (hZ:PngSz p) (hR:PngR p) (ha:at' < pixN p):
  Calls Tryz.prog 56 #[pngV p q,.int .i64 (at':Int)] w (Four (pixV p at') w):=by
 obtain⟨d,hd,h5,hp2⟩:=p2_hd hR
 have hsm:∀ i,i < chanN p.hc→0≤smq p at' i∧smq p at' i≤65535:=fun i hi=>by
  obtain⟨_,h1,h2,_⟩:=smq_in hR ha hi
  rw[hd,Int.toNat_natCast] at h2
  omega
 have hD:=hR.1.1.2.2
 have hn1:0 < chanN p.hc:=by
  have:=chan_pos hD
  unfold chanN
  omega
 have hone:=smq_in hR ha hn1
 have hlast:=smq_in hR ha (show chanN p.hc - 1 < chanN p.hc by omega)
 obtain⟨g,off,hsa,hg,hcell⟩:∃ g off,q.sa=some ⟨g,off,none⟩∧g < w.heap.size∧∀ j,j < p.sn→w.cell? ⟨g,off+j,none⟩=some (.int .i64 (p.S j)):=by
  rcases hP.s with h | h
  ·omega
  ·exact h
 have hs:∀ i,i < chanN p.hc→w.cell? ⟨g,off+at' * chanN p.hc+i,none⟩=some (.int .i64 (smq p at' i)):=fun i hi=>by
  rw[Nat.add_assoc]
  exact hcell _ (smq_in hR ha hi).1
 have hcl:clearB p at'=true↔LikeI (chanN p.hc) p.cn (fun k=>smq p at' k) p.C:=(clearB_iff p at').trans Iff.rfl
 have hIn:=hR.2.2.2.1
 have hFits:=hR.2.1
 have hClr:=hR.2.2.1
 have hcap:=hP.capped.1
 have hsz:=hZ.s
 obtain⟨hw,hh,hd',hc',lace,tn,T,cn,C,rw',rh,rc,rd,sn,S,kn,K⟩:=p
 obtain⟨ta,tc,ca,cc,sa,sc,ka,kc⟩:=q
 have hT:RgbCame w ta tn T:=hP.t
 have hC:Came w ca cn C:=hP.c
 simp only [] at hd hD hIn hFits hClr hcap hsz hsa hone hlast
 subst hd hsa
 have hsmall:∀ n,chanN hc'=n→∀ i,i < n→w.cell? ⟨g,off+at' * n+i,none⟩=some (.int .i64 (smq ⟨hw,hh,(d:Int),hc',lace,tn,T,cn,C,rw',rh,rc,rd,sn,S,kn,K⟩ at' i))∧0≤smq ⟨hw,hh,(d:Int),hc',lace,tn,T,cn,C,rw',rh,rc,rd,sn,S,kn,K⟩ at' i∧smq ⟨hw,hh,(d:Int),hc',lace,tn,T,cn,C,rw',rh,rc,rd,sn,S,kn,K⟩ at' i≤65535:=fun n hn i hi=>by
  subst hn
  exact⟨hs i hi,hsm i hi⟩
 have hend:∀ n,chanN hc'=n→at' * n+n≤sn:=fun n hn=>by
  subst hn
  have h1:at' * chanN hc'+(chanN hc' - 1) < sn:=hlast.1
  have h2:0 < chanN hc':=hn1
  omega
 have hc5:hc'=0∨hc'=3∨hc'=2∨hc'=4∨hc'=6:=by
  rcases hD with ⟨h,_⟩ | ⟨h,_⟩ | ⟨h | h | h,_⟩ <;> omega
 rcases hc5 with rfl | rfl | rfl | rfl | rfl
 ·have hcn:cn=0∨cn=1:=by
   rcases hClr with h | h
   ·exact .inl h
   ·rcases h.2 with ⟨_,q,_⟩ | ⟨q,_⟩ | ⟨q,_⟩
    ·exact .inr q
    ·omega
    ·omega
  refine (specPix_0 hw hh d lace tn cn C rw' rh rc rd sn kn ta ca ka g off tc cc sc kc at' (at' * 1) _ w hg (hsmall 1 (by decide)) (hend 1 (by decide)) rfl hsz hcap h5 hC hcn _ rfl).mono fun e w' h=>four_as h fun k hk=>?_
  have hB:clB cn C (fun k=>smq ⟨hw,hh,(d:Int),0,lace,tn,T,cn,C,rw',rh,rc,rd,sn,S,kn,K⟩ at' k) 1=clearB ⟨hw,hh,(d:Int),0,lace,tn,T,cn,C,rw',rh,rc,rd,sn,S,kn,K⟩ at':=Bool.eq_iff_iff.mpr ((clB_like (by omega) hcn).trans hcl.symm)
  simp[pixV,← hB]
 ·have hs0:=hIn rfl _ hone.1
  obtain⟨pl,hpe⟩:∃ pl:Nat,smq ⟨hw,hh,(d:Int),3,lace,tn,T,cn,C,rw',rh,rc,rd,sn,S,kn,K⟩ at' 0=(pl:Int):=⟨_,(Int.toNat_of_nonneg hone.2.1).symm⟩
  have hpl:pl < tn:=by
   have:smq ⟨hw,hh,(d:Int),3,lace,tn,T,cn,C,rw',rh,rc,rd,sn,S,kn,K⟩ at' 0 < (tn:Int):=hs0
   omega
  have hTR:TableR T tn:=by
   have:=hFits
   unfold FitsR at this
   rw[if_pos rfl] at this
   exact this.1
  obtain⟨gT,oT,ha2,hgT,hcT⟩:∃ g off,ta=some ⟨g,off,none⟩∧g < w.heap.size∧∀ j,j < tn→w.cell? ⟨g,off+j * 3,none⟩=some (.int .i64 (T j).1)∧w.cell? ⟨g,off+j * 3+1,none⟩=some (.int .i64 (T j).2.1)∧w.cell? ⟨g,off+j * 3+2,none⟩=some (.int .i64 (T j).2.2):=by
   rcases hT with h | h
   ·omega
   ·exact h
  subst ha2
  have hcov:0≤(if (pl:Int) < (cn:Int) then C pl else 255)∧(if (pl:Int) < (cn:Int) then C pl else 255)≤255:=by
   split
   ·next h=>
    rcases hClr with h0 | h0
    ·have h0':cn=0:=h0
     omega
    ·rcases h0.2 with ⟨q,_⟩ | ⟨q,_⟩ | ⟨_,_,q⟩
     ·omega
     ·omega
     ·have:=q pl (by omega)
      rw[p2_8] at this
      omega
   ·omega
  have h1:=(hsmall 1 (by decide) 0 (by omega)).1
  rw[hpe,Nat.mul_one,Nat.add_zero] at h1
  have h2:=hend 1 (by decide)
  obtain⟨t0,t1,t2⟩:=hcT pl hpl
  refine (specPix_3 hw hh d lace tn T cn C rw' rh rc rd sn kn ca ka g off gT oT tc cc sc kc at' pl _ w hg h1 (by omega) hsz hcap hgT t0 t1 t2 hpl (hTR.2 pl hpl) hC rfl hcov.1 hcov.2).mono fun e w' h=>four_as h fun k hk=>?_
  have hcv:coverT ⟨hw,hh,(d:Int),3,lace,tn,T,cn,C,rw',rh,rc,rd,sn,S,kn,K⟩ (pl:Int)=if (pl:Int) < (cn:Int) then C pl else 255:=by
   unfold coverT
   rw[Int.toNat_natCast]
  simp[pixV,hpe,hcv]
 ·have hcn:cn=0∨cn=3:=by
   rcases hClr with h | h
   ·exact .inl h
   ·rcases h.2 with ⟨q,_⟩ | ⟨_,q,_⟩ | ⟨q,_⟩
    ·omega
    ·exact .inr q
    ·omega
  refine (specPix_2 hw hh d lace tn cn C rw' rh rc rd sn kn ta ca ka g off tc cc sc kc at' (at' * 3) _ w hg (hsmall 3 (by decide)) (hend 3 (by decide)) rfl hsz hcap h5 hC hcn _ rfl).mono fun e w' h=>four_as h fun k hk=>?_
  have hB:clB cn C (fun k=>smq ⟨hw,hh,(d:Int),2,lace,tn,T,cn,C,rw',rh,rc,rd,sn,S,kn,K⟩ at' k) 3=clearB ⟨hw,hh,(d:Int),2,lace,tn,T,cn,C,rw',rh,rc,rd,sn,S,kn,K⟩ at':=Bool.eq_iff_iff.mpr ((clB_like (by omega) hcn).trans hcl.symm)
  simp[pixV,← hB]
 ·have hcn:cn=0:=by
   rcases hClr with h | h
   ·exact h
   ·rcases h.2 with ⟨q,_⟩ | ⟨q,_⟩ | ⟨q,_⟩ <;> omega
  refine (specPix_4 hw hh d lace tn cn C rw' rh rc rd sn kn ta ca ka g off tc cc sc kc at' (at' * 2) _ w hg (hsmall 2 (by decide)) (hend 2 (by decide)) rfl hsz hcap h5 hC (.inl hcn) _ rfl).mono fun e w' h=>four_as h fun k hk=>?_
  simp[pixV]
 ·have hcn:cn=0:=by
   rcases hClr with h | h
   ·exact h
   ·rcases h.2 with ⟨q,_⟩ | ⟨q,_⟩ | ⟨q,_⟩ <;> omega
  refine (specPix_6 hw hh d lace tn cn C rw' rh rc rd sn kn ta ca ka g off tc cc sc kc at' (at' * 4) _ w hg (hsmall 4 (by decide)) (hend 4 (by decide)) rfl hsz hcap h5 hC (.inl hcn) _ rfl).mono fun e w' h=>four_as h fun k hk=>?_
  simp[pixV]
end
section
open Go.RowKit Go.Joins
def ivals (l:List Int):List Value:=l.map fun x=>Value.int .i64 x
theorem ivals_length (l:List Int):(ivals l).length=l.length:=by simp [ivals]
theorem ivals_app (xs ys:List Int):ivals (xs ++ ys)=ivals xs ++ ivals ys:=by simp [ivals]
theorem ivals_get (l:List Int) (i:Nat) (h:i < l.length):(ivals l)[i]?=some (.int .i64 (l.getD i 0)):=by
 unfold ivals
 rw[List.getElem?_map,List.getElem?_eq_getElem h,List.getD_eq_getElem?_getD,List.getElem?_eq_getElem h]
 rfl
theorem ivals_one (l:List Int):∀ u∈ivals l,u.oneCell'=true:=by
 intro u hu
 obtain⟨x,_,rfl⟩:=List.mem_map.mp hu
 rfl
def NumRow (w:World) (S:Nat) (v:Value) (l:List Int):Prop:=w.ownsRow S 3 1 v l.length (ivals l)
theorem NumRow.empty (w:World) (S:Nat) (h:S≤w.heap.size):NumRow (w.alloc (.cells #[] 3)) S (.slice (some ⟨w.heap.size,0,none⟩) 0 0) []:=
 ⟨rfl,.inr ⟨w.heap.size,0,#[],rfl,h,heap_alloc_new w _,Nat.le_refl _,Nat.zero_le _,rfl,rfl⟩⟩
theorem NumRow.form {w:World} {S:Nat} {v:Value} {l:List Int} (h:NumRow w S v l):∃ a c,v=.slice a l.length c∧(a=none→c=0)∧l.length≤c∧Came w a l.length (fun i=>l.getD i 0)∧∀ ad,a=some ad→∀ j u,(ivals l)[j]?=some u→w.cell? (ad.add j)=some u:=by
 rcases h.2 with ⟨rfl,h0⟩ | ⟨g,cap,cur,rfl,hb,hg,hc,hm,hs,ht⟩
 ·exact⟨none,0,by rw [h0],fun _=>rfl,by omega,.inl h0,fun ad e=>by cases e⟩
 ·refine⟨_,cap,rfl,(fun e=>by cases e),hc,.inr ⟨g,0,rfl,block_lt hg,fun j hj=>?_⟩,fun ad e j u hu=>?_⟩
  ·rw[Nat.zero_add,h.cellAt j (by omega)]
   exact ivals_get l j hj
  ·cases e
   have hj:j < l.length:=by
    rcases Nat.lt_or_ge j l.length with k | k
    ·exact k
    ·rw[List.getElem?_eq_none (by rw [ivals_length]; exact k)] at hu; cases hu
   rw[Addr.add_lit,Nat.zero_add,h.cellAt j (by omega)]
   exact hu
theorem NumRow.called {w w':World} {S:Nat} {v:Value} {l:List Int} (h:NumRow w S v l) (hb:Below w.heap.size w w'):NumRow w' S v l:=by
 refine⟨h.1,?_⟩
 rcases h.2 with h | ⟨g,cap,cur,rfl,h1,h2,h3⟩
 ·exact .inl h
 ·exact .inr ⟨g,cap,cur,rfl,h1,(hb.block g (block_lt h2)).trans h2,h3⟩
end
section
open Go.RowKit Go.Joins
theorem nums_append1 {w:World} {S:Nat} {v:Value} {xs:List Int} {ops:Array Oper} {rest:List Oper} {o:Oper} {a:Act} {Q:Exit→Act→World→Prop} (hgd:o.guard=none) (s x:Operand)
  (ho:o.op=.call { callee:=.builtin .append,args:=#[s,x],argTypes:=#[25,25] }) (hs:a.eval s=v) (h:NumRow w S v xs) (g c:Nat) (y:Int) (hx:a.eval x=.slice (some ⟨g,0,none⟩) 1 c) (hy:w.cell? ⟨g,0,none⟩=some (.int .i64 y))
  (h63:xs.length≤100000) (hS:S≤w.heap.size)
  (hK:∀ v' w',NumRow w' S v' (xs ++ [y])→w.grownBy w' v.ownBlock→(v'.ownBlock=v.ownBlock∨v'.ownBlock=some w.heap.size)→wpList Tryz.prog ops Q rest (a.put o.dst v') w'):wpList Tryz.prog ops Q (o :: rest) a w:=by
 obtain⟨i0,hi0,hz0,hz1,hz2⟩:=info_parts info_int
 refine wpList_append_own_at w hgd s x _ ho S 3 i0 _ 1 8 Tryz.underlying25 hi0 hz0 hz1 hz2 rfl (by omega) v _ _ hs h ⟨g,0,none⟩ 1 c (ivals [y]) hx rfl (fun j u hu=>?_) (ivals_one _) (by unfold maxLen; omega) (by omega) hS ?_
 ·cases j with
  | zero=>
   simp[ivals] at hu
   rw[← hu]
   exact hy
  | succ j=>simp [ivals] at hu
 ·intro v' w' hown hg _ hk
  refine hK v' w' ?_ hg hk
  show w'.ownsRow S 3 1 v' (xs ++ [y]).length (ivals (xs ++ [y]))
  rw[List.length_append,ivals_app]
  exact hown
end
section
open Go.RowKit Go.Joins
theorem sl_of_num {w:World} {S:Nat} {a:Option Addr} {n c:Nat} {O:List Int} (h:NumRow w S (.slice a n c) O) (hn:n=O.length):SL w S a n c (fun j=>O.getD j 0):=by
 rcases Nat.eq_zero_or_pos n with h0 | h0
 ·exact .inl h0
 ·obtain⟨g,_,ho⟩:=own_of_ownsRow h (by omega)
  obtain⟨cap,e⟩:=ho.form
  obtain⟨e1,e2,e3⟩:=Value.slice.inj e
  subst e1 e3
  have e4:fints (fun j=>O.getD j 0) n=ivals O:=by
   refine List.ext_getElem? (fun i=>?_)
   rcases Nat.lt_or_ge i O.length with q | q
   ·rw[ivals_get O i q,List.getElem?_eq_getElem (by rw [fints_length]; omega),fints_get]
   ·rw[List.getElem?_eq_none (by rw [fints_length]; omega),List.getElem?_eq_none (by rw [ivals_length]; exact q)]
  refine .inr ⟨g,rfl,?_⟩
  unfold IOwn
  rw[e4]
  exact ho
end
section
open Go.RowKit Go.Joins
theorem SL.congr {w:World} {base:Nat} {a:Option Addr} {n c:Nat} {f g:Nat→Int} (h:SL w base a n c f) (e:∀ i,i < n→f i=g i):SL w base a n c g:=by
 rcases h with h | ⟨k,ea,ho⟩
 ·exact .inl h
 ·exact .inr ⟨k,ea,ho.congr e⟩
theorem NumRow.max {w:World} {S:Nat} {a:Option Addr} {n c:Nat} {l:List Int} (h:NumRow w S (.slice a n c) l):n≤c∧c≤maxLen:=by
 rcases h.2 with ⟨e,_⟩ | ⟨g,cap,cur,e,_,_,h1,h2,_⟩
 ·cases e; exact⟨Nat.le_refl _,by unfold maxLen; omega⟩
 ·cases e; exact⟨h1,h2⟩
end
end Go.Proofs.YtkpbfmdnjnohlaaGreat
