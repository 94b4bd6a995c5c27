/-
  Texts of the proof, put together.
-/
import Derived.Test.YtkpbfmdnjnohlaaGreatRd43
import Derived.Test.YtkpbfmdnjnohlaaGreatRd32
namespace Go.Proofs.YtkpbfmdnjnohlaaGreat
open Go.RowKit Go.Joins OutMath PutMath RastMath HeadMath
theorem four_as {v v':Nat→Int} {w w':World} {e:Ending} (h:Four v w e w') (hv:∀ k,k < 4→v k=v' k):Four v' w e w':=by
 obtain⟨g,cap,h1,h2,h3,h4⟩:=h
 exact⟨g,cap,h1,fun k hk=>by rw [h2 k hk,hv k hk],h3,h4⟩
theorem clB_like {n cn:Nat} {C s:Nat→Int} (hn:0 < n) (hcn:cn=0∨cn=n):clB cn C s n=true↔LikeI n cn s C:=by
 unfold clB LikeI
 simp only [Bool.and_eq_true,decide_eq_true_eq,List.all_eq_true,List.mem_range]
 constructor
 ·rintro⟨h1,h2⟩
  exact⟨by omega,fun i hi=>(h2 i hi).symm⟩
 ·rintro⟨h1,h2⟩
  exact⟨by omega,fun i hi=>(h2 i hi).symm⟩
set_option maxRecDepth 100000 in
set_option maxHeartbeats 1600000 in
theorem specPixel_any (p:Pic) (q:PicA) (at':Nat) (w:World) (hP:PngIn w p q) (hZ:PngSz p) (hR:PngR p) (ha:at' < pixN p):
  Calls Tryz.prog 56 #[pngV p q,.int .i64 (at':Int)] w (Four (pixV p at') w):=by
 obtain⟨d,hd,h5,hp2⟩:=p2_hd hR
 have hsm:∀ i,i < chanN p.hc→0≤smq p at' i∧smq p at' i≤65535:=fun i hi=>by
  obtain⟨_,h1,h2,_⟩:=smq_in hR ha hi
  rw[hd,Int.toNat_natCast] at h2
  omega
 have hD:=hR.1.1.2.2
 have hn1:0 < chanN p.hc:=by
  have:=chan_pos hD
  unfold chanN
  omega
 have hone:=smq_in hR ha hn1
 have hlast:=smq_in hR ha (show chanN p.hc - 1 < chanN p.hc by omega)
 obtain⟨g,off,hsa,hg,hcell⟩:∃ g off,q.sa=some ⟨g,off,none⟩∧g < w.heap.size∧∀ j,j < p.sn→w.cell? ⟨g,off+j,none⟩=some (.int .i64 (p.S j)):=by
  rcases hP.s with h | h
  ·omega
  ·exact h
 have hs:∀ i,i < chanN p.hc→w.cell? ⟨g,off+at' * chanN p.hc+i,none⟩=some (.int .i64 (smq p at' i)):=fun i hi=>by
  rw[Nat.add_assoc]
  exact hcell _ (smq_in hR ha hi).1
 have hcl:clearB p at'=true↔LikeI (chanN p.hc) p.cn (fun k=>smq p at' k) p.C:=(clearB_iff p at').trans Iff.rfl
 have hIn:=hR.2.2.2.1
 have hFits:=hR.2.1
 have hClr:=hR.2.2.1
 have hcap:=hP.capped.1
 have hsz:=hZ.s
 obtain⟨hw,hh,hd',hc',lace,tn,T,cn,C,rw',rh,rc,rd,sn,S,kn,K⟩:=p
 obtain⟨ta,tc,ca,cc,sa,sc,ka,kc⟩:=q
 have hT:RgbCame w ta tn T:=hP.t
 have hC:Came w ca cn C:=hP.c
 simp only [] at hd hD hIn hFits hClr hcap hsz hsa hone hlast
 subst hd hsa
 have hsmall:∀ n,chanN hc'=n→∀ i,i < n→w.cell? ⟨g,off+at' * n+i,none⟩=some (.int .i64 (smq ⟨hw,hh,(d:Int),hc',lace,tn,T,cn,C,rw',rh,rc,rd,sn,S,kn,K⟩ at' i))∧0≤smq ⟨hw,hh,(d:Int),hc',lace,tn,T,cn,C,rw',rh,rc,rd,sn,S,kn,K⟩ at' i∧smq ⟨hw,hh,(d:Int),hc',lace,tn,T,cn,C,rw',rh,rc,rd,sn,S,kn,K⟩ at' i≤65535:=fun n hn i hi=>by
  subst hn
  exact⟨hs i hi,hsm i hi⟩
 have hend:∀ n,chanN hc'=n→at' * n+n≤sn:=fun n hn=>by
  subst hn
  have h1:at' * chanN hc'+(chanN hc' - 1) < sn:=hlast.1
  have h2:0 < chanN hc':=hn1
  omega
 have hc5:hc'=0∨hc'=3∨hc'=2∨hc'=4∨hc'=6:=by
  rcases hD with ⟨h,_⟩ | ⟨h,_⟩ | ⟨h | h | h,_⟩ <;> omega
 rcases hc5 with rfl | rfl | rfl | rfl | rfl
 ·have hcn:cn=0∨cn=1:=by
   rcases hClr with h | h
   ·exact .inl h
   ·rcases h.2 with ⟨_,q,_⟩ | ⟨q,_⟩ | ⟨q,_⟩
    ·exact .inr q
    ·omega
    ·omega
  refine (specPix_0 hw hh d lace tn cn C rw' rh rc rd sn kn ta ca ka g off tc cc sc kc at' (at' * 1) _ w hg (hsmall 1 (by decide)) (hend 1 (by decide)) rfl hsz hcap h5 hC hcn _ rfl).mono fun e w' h=>four_as h fun k hk=>?_
  have hB:clB cn C (fun k=>smq ⟨hw,hh,(d:Int),0,lace,tn,T,cn,C,rw',rh,rc,rd,sn,S,kn,K⟩ at' k) 1=clearB ⟨hw,hh,(d:Int),0,lace,tn,T,cn,C,rw',rh,rc,rd,sn,S,kn,K⟩ at':=Bool.eq_iff_iff.mpr ((clB_like (by omega) hcn).trans hcl.symm)
  simp[pixV,← hB]
 ·have hs0:=hIn rfl _ hone.1
  obtain⟨pl,hpe⟩:∃ pl:Nat,smq ⟨hw,hh,(d:Int),3,lace,tn,T,cn,C,rw',rh,rc,rd,sn,S,kn,K⟩ at' 0=(pl:Int):=⟨_,(Int.toNat_of_nonneg hone.2.1).symm⟩
  have hpl:pl < tn:=by
   have:smq ⟨hw,hh,(d:Int),3,lace,tn,T,cn,C,rw',rh,rc,rd,sn,S,kn,K⟩ at' 0 < (tn:Int):=hs0
   omega
  have hTR:TableR T tn:=by
   have:=hFits
   unfold FitsR at this
   rw[if_pos rfl] at this
   exact this.1
  obtain⟨gT,oT,ha2,hgT,hcT⟩:∃ g off,ta=some ⟨g,off,none⟩∧g < w.heap.size∧∀ j,j < tn→w.cell? ⟨g,off+j * 3,none⟩=some (.int .i64 (T j).1)∧w.cell? ⟨g,off+j * 3+1,none⟩=some (.int .i64 (T j).2.1)∧w.cell? ⟨g,off+j * 3+2,none⟩=some (.int .i64 (T j).2.2):=by
   rcases hT with h | h
   ·omega
   ·exact h
  subst ha2
  have hcov:0≤(if (pl:Int) < (cn:Int) then C pl else 255)∧(if (pl:Int) < (cn:Int) then C pl else 255)≤255:=by
   split
   ·next h=>
    rcases hClr with h0 | h0
    ·have h0':cn=0:=h0
     omega
    ·rcases h0.2 with ⟨q,_⟩ | ⟨q,_⟩ | ⟨_,_,q⟩
     ·omega
     ·omega
     ·have:=q pl (by omega)
      rw[p2_8] at this
      omega
   ·omega
  have h1:=(hsmall 1 (by decide) 0 (by omega)).1
  rw[hpe,Nat.mul_one,Nat.add_zero] at h1
  have h2:=hend 1 (by decide)
  obtain⟨t0,t1,t2⟩:=hcT pl hpl
  refine (specPix_3 hw hh d lace tn T cn C rw' rh rc rd sn kn ca ka g off gT oT tc cc sc kc at' pl _ w hg h1 (by omega) hsz hcap hgT t0 t1 t2 hpl (hTR.2 pl hpl) hC rfl hcov.1 hcov.2).mono fun e w' h=>four_as h fun k hk=>?_
  have hcv:coverT ⟨hw,hh,(d:Int),3,lace,tn,T,cn,C,rw',rh,rc,rd,sn,S,kn,K⟩ (pl:Int)=if (pl:Int) < (cn:Int) then C pl else 255:=by
   unfold coverT
   rw[Int.toNat_natCast]
  simp[pixV,hpe,hcv]
 ·have hcn:cn=0∨cn=3:=by
   rcases hClr with h | h
   ·exact .inl h
   ·rcases h.2 with ⟨q,_⟩ | ⟨_,q,_⟩ | ⟨q,_⟩
    ·omega
    ·exact .inr q
    ·omega
  refine (specPix_2 hw hh d lace tn cn C rw' rh rc rd sn kn ta ca ka g off tc cc sc kc at' (at' * 3) _ w hg (hsmall 3 (by decide)) (hend 3 (by decide)) rfl hsz hcap h5 hC hcn _ rfl).mono fun e w' h=>four_as h fun k hk=>?_
  have hB:clB cn C (fun k=>smq ⟨hw,hh,(d:Int),2,lace,tn,T,cn,C,rw',rh,rc,rd,sn,S,kn,K⟩ at' k) 3=clearB ⟨hw,hh,(d:Int),2,lace,tn,T,cn,C,rw',rh,rc,rd,sn,S,kn,K⟩ at':=Bool.eq_iff_iff.mpr ((clB_like (by omega) hcn).trans hcl.symm)
  simp[pixV,← hB]
 ·have hcn:cn=0:=by
   rcases hClr with h | h
   ·exact h
   ·rcases h.2 with ⟨q,_⟩ | ⟨q,_⟩ | ⟨q,_⟩ <;> omega
  refine (specPix_4 hw hh d lace tn cn C rw' rh rc rd sn kn ta ca ka g off tc cc sc kc at' (at' * 2) _ w hg (hsmall 2 (by decide)) (hend 2 (by decide)) rfl hsz hcap h5 hC (.inl hcn) _ rfl).mono fun e w' h=>four_as h fun k hk=>?_
  simp[pixV]
 ·have hcn:cn=0:=by
   rcases hClr with h | h
   ·exact h
   ·rcases h.2 with ⟨q,_⟩ | ⟨q,_⟩ | ⟨q,_⟩ <;> omega
  refine (specPix_6 hw hh d lace tn cn C rw' rh rc rd sn kn ta ca ka g off tc cc sc kc at' (at' * 4) _ w hg (hsmall 4 (by decide)) (hend 4 (by decide)) rfl hsz hcap h5 hC (.inl hcn) _ rfl).mono fun e w' h=>four_as h fun k hk=>?_
  simp[pixV]
end Go.Proofs.YtkpbfmdnjnohlaaGreat
