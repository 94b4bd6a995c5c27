/-
  Texts of the proof, put together.
-/
import Derived.Test.YtkpbfmdnjnohlaaMk41
import Derived.Test.YtkpbfmdnjnohlaaMk36
import Derived.Shelf.Pu.Clone
namespace Go.Proofs.Ytkpbfmdnjnohlaa
section
open Go.RowKit Go.Joins OutMath PutMath RastMath HeadMath
theorem smq_in {p:Pic} (h:PngR p) {at' k:Nat} (ha:at' < pixN p) (hk:k < chanN p.hc):at' * chanN p.hc+k < p.sn∧0≤smq p at' k∧smq p at' k < p2 p.hd.toNat∧p.sn=pixN p * chanN p.hc:=by
 obtain⟨⟨_,hR,h1,h2,h3,h4⟩,_⟩:=h
 obtain⟨r1,r2,_,r4,r5⟩:=hR
 have hc0:=(chan_range p.hc).1
 have hsn:p.sn=pixN p * chanN p.hc:=by
  have e:((pixN p * chanN p.hc:Nat):Int)=p.rw * p.rh * chan p.rc:=by
   unfold pixN chanN
   rw[Int.natCast_mul,Int.toNat_of_nonneg hc0,Int.toNat_of_nonneg (by rw [← h1,← h2]; exact Int.mul_nonneg (by omega) (by omega)),h1,h2,h3]
  omega
 have hlt:at' * chanN p.hc+k < p.sn:=by
  have h5:=Nat.mul_le_mul_right (chanN p.hc) (show at'+1≤pixN p from ha)
  rw[Nat.succ_mul] at h5
  omega
 have h6:=r5 _ hlt
 rw[h4] at h6
 exact⟨hlt,h6.1,h6.2,hsn⟩
theorem p2_hd {p:Pic} (h:PngR p):∃ d:Nat,p.hd=(d:Int)∧Five (d:Int)∧p2 d≤65536:=by
 have h5:=depth_five h.1.1.2.2
 have hr:=five_range h5
 refine⟨p.hd.toNat,by omega,by rw [Int.toNat_of_nonneg (by omega)]; exact h5,?_⟩
 have h2:=p2_le (show p.hd.toNat≤16 by omega)
 rw[show p2 16=65536 by decide +kernel] at h2
 exact h2
set_option maxRecDepth 100000 in
set_option maxHeartbeats 1600000 in
theorem meant_any (p:Pic) (q:PicA) (at':Nat) (a:Option Addr) (cap:Nat) (w:World) (hP:PngIn w p q) (hZ:PngSz p) (hR:PngR p) (ha:at' < pixN p) (hS:Came w a (chanN p.hc) (fun k=>smq p at' k)) (hcap:chanN p.hc≤cap):
  Calls Try.prog 76 #[pngV p q,.slice a (chanN p.hc) cap] w (MeantPost (pixV p at') w):=by
 obtain⟨d,hd,h5,hp2⟩:=p2_hd hR
 have hsm:∀ i,i < chanN p.hc→0≤smq p at' i∧smq p at' i≤65535:=fun i hi=>by
  obtain⟨_,h1,h2,_⟩:=smq_in hR ha hi
  rw[hd,Int.toNat_natCast] at h2
  omega
 have hcl:clearB p at'=true↔LikeI (chanN p.hc) p.cn (fun k=>smq p at' k) p.C:=(clearB_iff p at').trans Iff.rfl
 have hD:=hR.1.1.2.2
 have hIn:=hR.2.2.2.1
 have hFits:=hR.2.1
 have hClr:=hR.2.2.1
 have hone:=fun (h0:0 < chanN p.hc)=>smq_in hR ha h0
 obtain⟨hw,hh,hd',hc',lace,tn,T,cn,C,rw',rh,rc,rd,sn,S,kn,K⟩:=p
 obtain⟨ta,tc,ca,cc,sa,sc,ka,kc⟩:=q
 have hT:RgbCame w ta tn T:=hP.t
 have hC:Came w ca cn C:=hP.c
 have hcn:cn≤1048576:=hZ.c
 simp only [] at hd hD hIn hFits hClr hcap
 subst hd
 have hc5:hc'=0∨hc'=3∨hc'=2∨hc'=4∨hc'=6:=by
  rcases hD with ⟨h,_⟩ | ⟨h,_⟩ | ⟨h | h | h,_⟩ <;> omega
 rcases hc5 with rfl | rfl | rfl | rfl | rfl
 ·refine (meant_0 hw hh d lace tn T cn C rw' rh rc rd sn kn ta ca sa ka tc cc sc kc a cap _ w hT hC hS h5 hcn _ hcl hsm).mono fun e w' h=>⟨h.1.trans ?_,h.2⟩
  refine congrArg (fun z=>Ending.returned (.agg z)) (four_congr fun k hk=>?_)
  simp[pixV]
 ·have h0:0 < chanN 3:=by decide
  have h1:=hone h0
  have hs0:=hIn rfl _ h1.1
  have hpl:smq ⟨hw,hh,(d:Int),3,lace,tn,T,cn,C,rw',rh,rc,rd,sn,S,kn,K⟩ at' 0 < (tn:Int):=hs0
  obtain⟨pl,hpe⟩:∃ pl:Nat,smq ⟨hw,hh,(d:Int),3,lace,tn,T,cn,C,rw',rh,rc,rd,sn,S,kn,K⟩ at' 0=(pl:Int):=⟨_,(Int.toNat_of_nonneg h1.2.1).symm⟩
  have hTR:TableR T tn:=by
   have:=hFits
   unfold FitsR at this
   rw[if_pos rfl] at this
   exact this.1
  have hcov:0≤coverT ⟨hw,hh,(d:Int),3,lace,tn,T,cn,C,rw',rh,rc,rd,sn,S,kn,K⟩ (pl:Int)∧coverT ⟨hw,hh,(d:Int),3,lace,tn,T,cn,C,rw',rh,rc,rd,sn,S,kn,K⟩ (pl:Int)≤255:=by
   unfold coverT
   split
   ·next h=>
    have h':(pl:Int) < (cn:Int):=h
    rcases hClr with h0 | h0
    ·have h0':cn=0:=h0
     omega
    ·rcases h0.2 with ⟨q,_⟩ | ⟨q,_⟩ | ⟨_,_,q⟩
     ·omega
     ·omega
     ·have:=q pl (by omega)
      rw[p2_8] at this
      rw[Int.toNat_natCast]
      show 0≤C pl∧C pl≤255
      omega
   ·omega
  refine (meant_3 hw hh d lace tn T cn C rw' rh rc rd sn kn ta ca sa ka tc cc sc kc a cap _ w hT hC hS pl hpe (by omega) (hTR.2 pl (by omega)) _ (by show _=_; unfold coverT; rw [Int.toNat_natCast]) hcov.1 hcov.2).mono fun e w' h=>⟨h.1.trans ?_,h.2⟩
  refine congrArg (fun z=>Ending.returned (.agg z)) (four_congr fun k hk=>?_)
  simp[pixV,hpe]
 ·refine (meant_2 hw hh d lace tn T cn C rw' rh rc rd sn kn ta ca sa ka tc cc sc kc a cap _ w hT hC hS h5 hcn _ hcl hsm).mono fun e w' h=>⟨h.1.trans ?_,h.2⟩
  refine congrArg (fun z=>Ending.returned (.agg z)) (four_congr fun k hk=>?_)
  simp[pixV]
 ·refine (meant_4 hw hh d lace tn T cn C rw' rh rc rd sn kn ta ca sa ka tc cc sc kc a cap _ w hT hC hS h5 hcap hsm).mono fun e w' h=>⟨h.1.trans ?_,h.2⟩
  refine congrArg (fun z=>Ending.returned (.agg z)) (four_congr fun k hk=>?_)
  simp[pixV]
 ·refine (meant_6 hw hh d lace tn T cn C rw' rh rc rd sn kn ta ca sa ka tc cc sc kc a cap _ w hT hC hS h5 hcap hsm).mono fun e w' h=>⟨h.1.trans ?_,h.2⟩
  refine congrArg (fun z=>Ending.returned (.agg z)) (four_congr fun k hk=>?_)
  simp[pixV]
end
section
open Go.RowKit Go.Joins OutMath PutMath RastMath HeadMath
theorem four_as {v v':Nat→Int} {w w':World} {e:Ending} (h:Four v w e w') (hv:∀ k,k < 4→v k=v' k):Four v' w e w':=by
 obtain⟨g,cap,h1,h2,h3,h4⟩:=h
 exact⟨g,cap,h1,fun k hk=>by rw [h2 k hk,hv k hk],h3,h4⟩
theorem clB_like {n cn:Nat} {C s:Nat→Int} (hn:0 < n) (hcn:cn=0∨cn=n):clB cn C s n=true↔LikeI n cn s C:=by
 unfold clB LikeI
 simp only [Bool.and_eq_true,decide_eq_true_eq,List.all_eq_true,List.mem_range]
 constructor
 ·rintro⟨h1,h2⟩
  exact⟨by omega,fun i hi=>(h2 i hi).symm⟩
 ·rintro⟨h1,h2⟩
  exact⟨by omega,fun i hi=>(h2 i hi).symm⟩
set_option maxRecDepth 100000 in
set_option maxHeartbeats 1600000 in
theorem specPixel_any (p:Pic) (q:PicA) (at':Nat) (w:World) (hP:PngIn w p q) (hZ:PngSz p) (hR:PngR p) (ha:at' < pixN p):
  Calls Try.prog 26 #[pngV p q,.int .i64 (at':Int)] w (Four (pixV p at') w):=by
 obtain⟨d,hd,h5,hp2⟩:=p2_hd hR
 have hsm:∀ i,i < chanN p.hc→0≤smq p at' i∧smq p at' i≤65535:=fun i hi=>by
  obtain⟨_,h1,h2,_⟩:=smq_in hR ha hi
  rw[hd,Int.toNat_natCast] at h2
  omega
 have hD:=hR.1.1.2.2
 have hn1:0 < chanN p.hc:=by
  have:=chan_pos hD
  unfold chanN
  omega
 have hone:=smq_in hR ha hn1
 have hlast:=smq_in hR ha (show chanN p.hc - 1 < chanN p.hc by omega)
 obtain⟨g,off,hsa,hg,hcell⟩:∃ g off,q.sa=some ⟨g,off,none⟩∧g < w.heap.size∧∀ j,j < p.sn→w.cell? ⟨g,off+j,none⟩=some (.int .i64 (p.S j)):=by
  rcases hP.s with h | h
  ·omega
  ·exact h
 have hs:∀ i,i < chanN p.hc→w.cell? ⟨g,off+at' * chanN p.hc+i,none⟩=some (.int .i64 (smq p at' i)):=fun i hi=>by
  rw[Nat.add_assoc]
  exact hcell _ (smq_in hR ha hi).1
 have hcl:clearB p at'=true↔LikeI (chanN p.hc) p.cn (fun k=>smq p at' k) p.C:=(clearB_iff p at').trans Iff.rfl
 have hIn:=hR.2.2.2.1
 have hFits:=hR.2.1
 have hClr:=hR.2.2.1
 have hcap:=hP.capped.1
 have hsz:=hZ.s
 obtain⟨hw,hh,hd',hc',lace,tn,T,cn,C,rw',rh,rc,rd,sn,S,kn,K⟩:=p
 obtain⟨ta,tc,ca,cc,sa,sc,ka,kc⟩:=q
 have hT:RgbCame w ta tn T:=hP.t
 have hC:Came w ca cn C:=hP.c
 simp only [] at hd hD hIn hFits hClr hcap hsz hsa hone hlast
 subst hd hsa
 have hsmall:∀ n,chanN hc'=n→∀ i,i < n→w.cell? ⟨g,off+at' * n+i,none⟩=some (.int .i64 (smq ⟨hw,hh,(d:Int),hc',lace,tn,T,cn,C,rw',rh,rc,rd,sn,S,kn,K⟩ at' i))∧0≤smq ⟨hw,hh,(d:Int),hc',lace,tn,T,cn,C,rw',rh,rc,rd,sn,S,kn,K⟩ at' i∧smq ⟨hw,hh,(d:Int),hc',lace,tn,T,cn,C,rw',rh,rc,rd,sn,S,kn,K⟩ at' i≤65535:=fun n hn i hi=>by
  subst hn
  exact⟨hs i hi,hsm i hi⟩
 have hend:∀ n,chanN hc'=n→at' * n+n≤sn:=fun n hn=>by
  subst hn
  have h1:at' * chanN hc'+(chanN hc' - 1) < sn:=hlast.1
  have h2:0 < chanN hc':=hn1
  omega
 have hc5:hc'=0∨hc'=3∨hc'=2∨hc'=4∨hc'=6:=by
  rcases hD with ⟨h,_⟩ | ⟨h,_⟩ | ⟨h | h | h,_⟩ <;> omega
 rcases hc5 with rfl | rfl | rfl | rfl | rfl
 ·have hcn:cn=0∨cn=1:=by
   rcases hClr with h | h
   ·exact .inl h
   ·rcases h.2 with ⟨_,q,_⟩ | ⟨q,_⟩ | ⟨q,_⟩
    ·exact .inr q
    ·omega
    ·omega
  refine (specPix_0 hw hh d lace tn cn C rw' rh rc rd sn kn ta ca ka g off tc cc sc kc at' (at' * 1) _ w hg (hsmall 1 (by decide)) (hend 1 (by decide)) rfl hsz hcap h5 hC hcn _ rfl).mono fun e w' h=>four_as h fun k hk=>?_
  have hB:clB cn C (fun k=>smq ⟨hw,hh,(d:Int),0,lace,tn,T,cn,C,rw',rh,rc,rd,sn,S,kn,K⟩ at' k) 1=clearB ⟨hw,hh,(d:Int),0,lace,tn,T,cn,C,rw',rh,rc,rd,sn,S,kn,K⟩ at':=Bool.eq_iff_iff.mpr ((clB_like (by omega) hcn).trans hcl.symm)
  simp[pixV,← hB]
 ·have hs0:=hIn rfl _ hone.1
  obtain⟨pl,hpe⟩:∃ pl:Nat,smq ⟨hw,hh,(d:Int),3,lace,tn,T,cn,C,rw',rh,rc,rd,sn,S,kn,K⟩ at' 0=(pl:Int):=⟨_,(Int.toNat_of_nonneg hone.2.1).symm⟩
  have hpl:pl < tn:=by
   have:smq ⟨hw,hh,(d:Int),3,lace,tn,T,cn,C,rw',rh,rc,rd,sn,S,kn,K⟩ at' 0 < (tn:Int):=hs0
   omega
  have hTR:TableR T tn:=by
   have:=hFits
   unfold FitsR at this
   rw[if_pos rfl] at this
   exact this.1
  obtain⟨gT,oT,ha2,hgT,hcT⟩:∃ g off,ta=some ⟨g,off,none⟩∧g < w.heap.size∧∀ j,j < tn→w.cell? ⟨g,off+j * 3,none⟩=some (.int .i64 (T j).1)∧w.cell? ⟨g,off+j * 3+1,none⟩=some (.int .i64 (T j).2.1)∧w.cell? ⟨g,off+j * 3+2,none⟩=some (.int .i64 (T j).2.2):=by
   rcases hT with h | h
   ·omega
   ·exact h
  subst ha2
  have hcov:0≤(if (pl:Int) < (cn:Int) then C pl else 255)∧(if (pl:Int) < (cn:Int) then C pl else 255)≤255:=by
   split
   ·next h=>
    rcases hClr with h0 | h0
    ·have h0':cn=0:=h0
     omega
    ·rcases h0.2 with ⟨q,_⟩ | ⟨q,_⟩ | ⟨_,_,q⟩
     ·omega
     ·omega
     ·have:=q pl (by omega)
      rw[p2_8] at this
      omega
   ·omega
  have h1:=(hsmall 1 (by decide) 0 (by omega)).1
  rw[hpe,Nat.mul_one,Nat.add_zero] at h1
  have h2:=hend 1 (by decide)
  obtain⟨t0,t1,t2⟩:=hcT pl hpl
  refine (specPix_3 hw hh d lace tn T cn C rw' rh rc rd sn kn ca ka g off gT oT tc cc sc kc at' pl _ w hg h1 (by omega) hsz hcap hgT t0 t1 t2 hpl (hTR.2 pl hpl) hC rfl hcov.1 hcov.2).mono fun e w' h=>four_as h fun k hk=>?_
  have hcv:coverT ⟨hw,hh,(d:Int),3,lace,tn,T,cn,C,rw',rh,rc,rd,sn,S,kn,K⟩ (pl:Int)=if (pl:Int) < (cn:Int) then C pl else 255:=by
   unfold coverT
   rw[Int.toNat_natCast]
  simp[pixV,hpe,hcv]
 ·have hcn:cn=0∨cn=3:=by
   rcases hClr with h | h
   ·exact .inl h
   ·rcases h.2 with ⟨q,_⟩ | ⟨_,q,_⟩ | ⟨q,_⟩
    ·omega
    ·exact .inr q
    ·omega
  refine (specPix_2 hw hh d lace tn cn C rw' rh rc rd sn kn ta ca ka g off tc cc sc kc at' (at' * 3) _ w hg (hsmall 3 (by decide)) (hend 3 (by decide)) rfl hsz hcap h5 hC hcn _ rfl).mono fun e w' h=>four_as h fun k hk=>?_
  have hB:clB cn C (fun k=>smq ⟨hw,hh,(d:Int),2,lace,tn,T,cn,C,rw',rh,rc,rd,sn,S,kn,K⟩ at' k) 3=clearB ⟨hw,hh,(d:Int),2,lace,tn,T,cn,C,rw',rh,rc,rd,sn,S,kn,K⟩ at':=Bool.eq_iff_iff.mpr ((clB_like (by omega) hcn).trans hcl.symm)
  simp[pixV,← hB]
 ·have hcn:cn=0:=by
   rcases hClr with h | h
   ·exact h
   ·rcases h.2 with ⟨q,_⟩ | ⟨q,_⟩ | ⟨q,_⟩ <;> omega
  refine (specPix_4 hw hh d lace tn cn C rw' rh rc rd sn kn ta ca ka g off tc cc sc kc at' (at' * 2) _ w hg (hsmall 2 (by decide)) (hend 2 (by decide)) rfl hsz hcap h5 hC (.inl hcn) _ rfl).mono fun e w' h=>four_as h fun k hk=>?_
  simp[pixV]
 ·have hcn:cn=0:=by
   rcases hClr with h | h
   ·exact h
   ·rcases h.2 with ⟨q,_⟩ | ⟨q,_⟩ | ⟨q,_⟩ <;> omega
  refine (specPix_6 hw hh d lace tn cn C rw' rh rc rd sn kn ta ca ka g off tc cc sc kc at' (at' * 4) _ w hg (hsmall 4 (by decide)) (hend 4 (by decide)) rfl hsz hcap h5 hC (.inl hcn) _ rfl).mono fun e w' h=>four_as h fun k hk=>?_
  simp[pixV]
end
section
open Go.RowKit Go.Joins
def renClone:Go.Shelf.Ren:=⟨fun _=>113,fun n=>match n with
 | 0=>0
 | 3=>3
 | 4=>4
 | 5=>5
 | 9=>9
 | 37=>114
 | _=>123,fun n=>n⟩
set_option maxRecDepth 100000 in
theorem clone_laid:LaysPu.n25 Try.prog renClone:=by
 constructor <;> first | kernel_rfl | exact fun w=>by kernel_rfl | exact fun w=>rfl
theorem implCloneLite (s:ByteArray) (w:World) (hs:s.size≤1048576):Calls Try.prog 113 #[.string s] w fun e w'=>e=.returned (.string s)∧Below w.heap.size w w':=AnyPu.stringslite_Clone clone_laid s w (by omega)
theorem implClone (s:ByteArray) (w:World) (hs:s.size≤1048576):Calls Try.prog 107 #[.string s] w fun e w'=>e=.returned (.string s)∧Below w.heap.size w w':=by
 go_enter Try.func107,Try.ntmps107
 go_wp2_with fail
 refine (implCloneLite s _ hs).mono ?_
 rintro e w1 ⟨rfl,hb⟩
 go_wp2_with fail
 go_ret
 exact⟨rfl,hb⟩
end
end Go.Proofs.Ytkpbfmdnjnohlaa
