/-
  Texts of the proof, put together.
-/
import Derived.Test.YtkpbfmdnjnohlaaGreatRd25
import Derived.Test.YtkpbfmdnjnohlaaGreatRd46
import Derived.Test.YtkpbfmdnjnohlaaGreatRd26
namespace Go.Proofs.YtkpbfmdnjnohlaaGreat
open Go.RowKit Go.Joins OutMath PutMath RastMath HeadMath ChunkMath
theorem px_came_of_own {W:World} {B n lc:Nat} {a:Option Addr} {D:List Q4} (h:W.ownsRow B 104 4 (.slice a n lc) n (pxcells D)) (hn:n=D.length):PxCame W a n (fun j=>D.getD j (0,0,0,0)):=by
 rcases h.2 with ⟨_,h0⟩ | ⟨g,cap,cur,e,q1,q2,q3,q4,q5,q6⟩
 ·exact .inl h0
 ·cases e
  refine .inr ⟨g,0,rfl,block_lt q2,fun j hj=>?_⟩
  have hD:D[j]?=some (D.getD j (0,0,0,0)):=by
   rw[List.getD_eq_getElem?_getD,List.getElem?_eq_getElem (by omega)]
   rfl
  obtain⟨e0,e1,e2,e3⟩:=pxcells_get D j _ hD
  have hc:∀ i v,(pxcells D)[i]?=some v→W.cell? ⟨g,0+i,none⟩=some v:=fun i v hi=>by
   rw[Nat.zero_add,cell_of_block q2 i,← Array.getElem?_toList]
   rw[← q6,List.getElem?_take] at hi
   split at hi
   ·exact hi
   ·cases hi
  exact⟨hc _ _ e0,hc _ _ e1,hc _ _ e2,hc _ _ e3⟩
def TbmPost (p:Pic) (w:World) (e:Ending) (w':World):Prop:=∃ la lc pa pc,e=.returned (.tuple #[.slice la (meaN p) lc,.slice pa (pixN p) pc])∧PxCame w' la (meaN p) (tblV p)∧SL w' w.heap.size pa (pixN p) pc (fun i=>(plc (pq p) i:Int))∧pixN p≤pc∧pc≤maxLen∧Below w.heap.size w w'
theorem tbm_any (p:Pic) (q:PicA) (W:World) (h:PngIn W p q) (hZ:PngSz p) (hM:TblM p):Calls Tryz.prog 57 #[pngV p q] W (TbmPost p W):=by
 refine (meanings_any p q W h hZ hM.1.1 (fun i hi=>pq_ok hM hi)).mono ?_
 rintro e w' ⟨la,lc,pa,pc,rfl,h1,h2,h3,h4,h5⟩
 exact⟨la,lc,pa,pc,rfl,px_came_of_own h1 rfl,h2,h3,h4,h5⟩
theorem px_came_on {W W':World} {a:Option Addr} {n:Nat} {V:Nat→Q4} (h:PxCame W a n V) (hb:Below W.heap.size W W'):PxCame W' a n V:=by
 rcases h with h | ⟨g,off,e,hg,hc⟩
 ·exact .inl h
 ·refine .inr ⟨g,off,e,Nat.lt_of_lt_of_le hg hb.size,fun j hj=>?_⟩
  obtain⟨c0,c1,c2,c3⟩:=hc j hj
  exact⟨(hb.cell (p:=⟨g,off+j * 4,none⟩) hg).trans c0,(hb.cell (p:=⟨g,off+j * 4+1,none⟩) hg).trans c1,(hb.cell (p:=⟨g,off+j * 4+2,none⟩) hg).trans c2,(hb.cell (p:=⟨g,off+j * 4+3,none⟩) hg).trans c3⟩
theorem implTbl_no (p:Pic) (q:PicA) (w:World) (hn:¬ ((p.hc=2∨p.hc=6)∧p.hd=8)):
  Calls Tryz.prog 18 #[pngV p q] w (LessPost (TblC p) (tblP p) w):=by
 have HNo:Hid (∀ W,Below w.heap.size w W→LessPost (TblC p) (tblP p) w (.returned (.tuple #[.agg #[.int .i64 0,.int .i64 0,.int .i64 0,.int .i64 0,.bool false,.slice none 0 0,.slice none 0 0,.int .i64 0,.int .i64 0,.int .i64 0,.int .i64 0,.slice none 0 0,.slice none 0 0],.bool false])) W):=fun W b=>.inl ⟨fun h=>hn h.1.2,rfl,b⟩
 have HN:=hid_of hn
 clear hn
 obtain⟨p0,hp0⟩:∃ p0,p0=p:=⟨_,rfl⟩
 obtain⟨hw,hh,hd,hc',lace,tn,T,cn,C,rw',rh,rc,rd,sn,S,kn,K⟩:=p
 obtain⟨ta,tc,ca,cc,sa,sc,ka,kc⟩:=q
 simp only [pngV] at HN HNo ⊢
 rw[← hp0] at HNo ⊢
 clear hp0
 have H0:Hid (RT w #[.int .i64 hw,.int .i64 hh,.int .i64 hd,.int .i64 hc',.bool lace,.slice ta tn tc,.slice ca cn cc,.int .i64 rw',.int .i64 rh,.int .i64 rc,.int .i64 rd,.slice sa sn sc,.slice ka kn kc] #[.int .i64 hw,.int .i64 hh,.int .i64 hd,.int .i64 hc',.bool lace] (((w.alloc (.cells #[.int .i64 hw,.int .i64 hh,.int .i64 hd,.int .i64 hc',.bool lace,.slice ta tn tc,.slice ca cn cc,.int .i64 rw',.int .i64 rh,.int .i64 rc,.int .i64 rd,.slice sa sn sc,.slice ka kn kc] 37)).alloc (.cells #[.int .i64 0,.int .i64 0,.int .i64 0,.int .i64 0,.bool false,.slice none 0 0,.slice none 0 0,.int .i64 0,.int .i64 0,.int .i64 0,.int .i64 0,.slice none 0 0,.slice none 0 0] 37)).alloc (.cells #[.int .i64 hw,.int .i64 hh,.int .i64 hd,.int .i64 hc',.bool lace] 32))):=RT.start w _ _ _ rfl
 by_cases h2:hc'=2
 ·subst h2
  have n8:(hd != 8)=true:=by
   have h:=HN.out
   simp at h
   simpa using h
  clear HN
  go_enter Tryz.func18,Tryz.ntmps18
  go_wp2_with fail
  refine bodyPost_ret (v:=.tuple #[.agg #[.int .i64 0,.int .i64 0,.int .i64 0,.int .i64 0,.bool false,.slice none 0 0,.slice none 0 0,.int .i64 0,.int .i64 0,.int .i64 0,.int .i64 0,.slice none 0 0,.slice none 0 0],.bool false]) ?_ rfl (HNo.out _ ?_)
  ·simp[results,Tryz.results18,go_sem, *]
  ·exact H0.out.1.2.2
 by_cases h6:hc'=6
 ·subst h6
  have n8:(hd != 8)=true:=by
   have h:=HN.out
   simp at h
   simpa using h
  clear HN h2
  go_enter Tryz.func18,Tryz.ntmps18
  go_wp2_with fail
  refine bodyPost_ret (v:=.tuple #[.agg #[.int .i64 0,.int .i64 0,.int .i64 0,.int .i64 0,.bool false,.slice none 0 0,.slice none 0 0,.int .i64 0,.int .i64 0,.int .i64 0,.int .i64 0,.slice none 0 0,.slice none 0 0],.bool false]) ?_ rfl (HNo.out _ ?_)
  ·simp[results,Tryz.results18,go_sem, *]
  ·exact H0.out.1.2.2
 have n2:(hc' != 2)=true:=by simpa using h2
 have n6:(hc' != 6)=true:=by simpa using h6
 clear HN h2 h6
 go_enter Tryz.func18,Tryz.ntmps18
 go_wp2_with fail
 refine bodyPost_ret (v:=.tuple #[.agg #[.int .i64 0,.int .i64 0,.int .i64 0,.int .i64 0,.bool false,.slice none 0 0,.slice none 0 0,.int .i64 0,.int .i64 0,.int .i64 0,.int .i64 0,.slice none 0 0,.slice none 0 0],.bool false]) ?_ rfl (HNo.out _ ?_)
 ·simp[results,Tryz.results18,go_sem, *]
 ·exact H0.out.1.2.2
set_option maxRecDepth 100000 in
set_option maxHeartbeats 6400000 in
theorem implTbl_2 (p:Pic) (q:PicA) (w:World) (hP:PngIn w p q) (hZ:PngSz p) (hcc:p.hc=2) (hdd:p.hd=8):
  Calls Tryz.prog 18 #[pngV p q] w (LessPost (TblC p) (tblP p) w):=by
 have hok:=fun W h=>implMay p q W h hZ
 have hme:=fun W h hM=>tbm_any p q W h hZ hM
 have hr:=fun dep ya yn yc W (h:PngIn W p q) (hR:PngR p)=>implRetold p q 3 dep ya yn yc W h.k (by have:=(png_fits hR).2.2.2.2; omega) hZ.m
 have HNo:Hid (¬ TblC p→∀ W,Below w.heap.size w W→LessPost (TblC p) (tblP p) w (.returned (.tuple #[.agg #[.int .i64 0,.int .i64 0,.int .i64 0,.int .i64 0,.bool false,.slice none 0 0,.slice none 0 0,.int .i64 0,.int .i64 0,.int .i64 0,.int .i64 0,.slice none 0 0,.slice none 0 0],.bool false])) W):=fun h W b=>.inl ⟨h,rfl,b⟩
 have HYes:Hid (TblC p→∀ (W:World) (t s c k:Option Addr) (tt cs cx kx:Nat),PngSL W w.heap.size (tblP p) ⟨t,tt,s,cs,c,cx,k,kx⟩→Below w.heap.size w W→LessPost (TblC p) (tblP p) w (.returned (.tuple #[.agg #[.int .i64 p.hw,.int .i64 p.hh,.int .i64 (tblD (meaN p):Nat),.int .i64 3,.bool p.lace,.slice t (meaN p) tt,.slice s (trimC (cvL (tblV p) (meaN p)) (meaN p)) cs,.int .i64 p.hw,.int .i64 p.hh,.int .i64 3,.int .i64 (tblD (meaN p):Nat),.slice c (pixN p) cx,.slice k p.kn kx],.bool true])) W):=fun h W t s c k tt cs cx kx h1 h6=>.inr ⟨h,_,rfl,h1,h6⟩
 have HMk:Hid (∀ (W:World) (t s c k:Option Addr) (tt cs cx kx:Nat),RgbSL W w.heap.size t (meaN p) (fun j=>((tblV p j).1 / 257,(tblV p j).2.1 / 257,(tblV p j).2.2.1 / 257))→SL W w.heap.size s (trimC (cvL (tblV p) (meaN p)) (meaN p)) cs (fun j=>(tblV p j).2.2.2 / 257)→SL W w.heap.size c (pixN p) cx (fun i=>(plc (pq p) i:Int))→KSL W w.heap.size k p.kn p.K→(trimC (cvL (tblV p) (meaN p)) (meaN p)=0∨pixN p=0∨s≠c)→pixN p≤cx∧cx≤maxLen→PngSL W w.heap.size (tblP p) ⟨t,tt,s,cs,c,cx,k,kx⟩):=fun W t s c k tt cs cx kx h1 h2 h3 h4 h5 h6=>⟨h1,h2,h3,h4,h5,h6⟩
 have HMR:Hid (MayR p→TblM p∧PngR p∧1≤meaN p∧meaN p≤576∧(∀ j,j < meaN p→QOk (tblV p j))):=fun h=>by
  have hM:TblM p:=⟨h,by omega,hdd⟩
  exact⟨hM,h.1,meaN_pos h.1,Nat.le_trans (meaN_le p) (png_n h.1).2.2,fun j hj=>tblV_ok hM hj⟩
 have HC:Hid (TblC p↔TblM p∧meaN p≤256):=Iff.rfl
 have HP:=hid_of hP
 clear hP hZ
 unfold TbmPost at hme
 obtain⟨M,hMM⟩:∃ M,M=trimC (cvL (tblV p) (meaN p)) (meaN p):=⟨_,rfl⟩
 rw[← hMM] at HYes HMk
 obtain⟨p0,hp0⟩:∃ p0,p0=p:=⟨_,rfl⟩
 obtain⟨hw,hh,hd,hc',lace,tn,T,cn,C,rw',rh,rc,rd,sn,S,kn,K⟩:=p
 obtain⟨ta,tc,ca,cc,sa,sc,ka,kc⟩:=q
 simp only [pngV] at hok hme hr HYes HNo ⊢
 replace hcc:hc'=2:=hcc
 replace hdd:hd=8:=hdd
 have HE:Hid (p0.kn=kn∧p0.K=K∧p0.hw=hw∧p0.hh=hh∧p0.lace=lace):=by rw [hp0]; exact⟨rfl,rfl,rfl,rfl,rfl⟩
 rw[← hp0] at hok hme hr HP HYes HNo HMR HMk HC hMM ⊢
 clear hp0
 have HMM:=hid_of hMM
 clear hMM
 subst hcc hdd
 have H0:Hid (RT w #[.int .i64 hw,.int .i64 hh,.int .i64 8,.int .i64 2,.bool lace,.slice ta tn tc,.slice ca cn cc,.int .i64 rw',.int .i64 rh,.int .i64 rc,.int .i64 rd,.slice sa sn sc,.slice ka kn kc] #[.int .i64 hw,.int .i64 hh,.int .i64 8,.int .i64 2,.bool lace] (((w.alloc (.cells #[.int .i64 hw,.int .i64 hh,.int .i64 8,.int .i64 2,.bool lace,.slice ta tn tc,.slice ca cn cc,.int .i64 rw',.int .i64 rh,.int .i64 rc,.int .i64 rd,.slice sa sn sc,.slice ka kn kc] 37)).alloc (.cells #[.int .i64 0,.int .i64 0,.int .i64 0,.int .i64 0,.bool false,.slice none 0 0,.slice none 0 0,.int .i64 0,.int .i64 0,.int .i64 0,.int .i64 0,.slice none 0 0,.slice none 0 0] 37)).alloc (.cells #[.int .i64 hw,.int .i64 hh,.int .i64 8,.int .i64 2,.bool lace] 32))):=RT.start w _ _ _ rfl
 go_enter Tryz.func18,Tryz.ntmps18
 go_wp2_with fail
 generalize ((w.alloc (.cells #[.int .i64 hw,.int .i64 hh,.int .i64 8,.int .i64 2,.bool lace,.slice ta tn tc,.slice ca cn cc,.int .i64 rw',.int .i64 rh,.int .i64 rc,.int .i64 rd,.slice sa sn sc,.slice ka kn kc] 37)).alloc (.cells #[.int .i64 0,.int .i64 0,.int .i64 0,.int .i64 0,.bool false,.slice none 0 0,.slice none 0 0,.int .i64 0,.int .i64 0,.int .i64 0,.int .i64 0,.slice none 0 0,.slice none 0 0] 37)).alloc (.cells #[.int .i64 hw,.int .i64 hh,.int .i64 8,.int .i64 2,.bool lace] 32)=w1 at H0 ⊢
 refine (hok _ (HP.out.called H0.out.1.2.2)).mono ?_
 rintro e w2 ⟨b,rfl,hb,hB⟩
 have H1:=hid_of (H0.out.called hB)
 have HB:=hid_of hb
 clear hB hb H0 hok
 cases b
 ·have HN:=hid_of (HNo.out fun h=>by have:=HB.out.mpr h.1.1; cases this)
  obtain⟨⟨z0,z1,z2,z3,z4,z5,z6,z7,z8,z9,z10,z11,z12,y0,y1,y2,y3,y4,y5,y6,y7,y8,y9,y10,y11,y12⟩,yf,yl⟩:=H1.out.1.cells
  clear HYes HMk hme hr HB
  go_wp2_with fail
  refine bodyPost_ret (v:=.tuple #[.agg #[.int .i64 0,.int .i64 0,.int .i64 0,.int .i64 0,.bool false,.slice none 0 0,.slice none 0 0,.int .i64 0,.int .i64 0,.int .i64 0,.int .i64 0,.slice none 0 0,.slice none 0 0],.bool false]) ?_ rfl (HN.out _ ?_)
  ·simp[results,Tryz.results18,go_sem, *]
  ·exact H1.out.1.stored _ _ _ _ _ _ _ _ _ _ _ _ _ 
 obtain⟨hTM,hR,hn1,hn2,hQ⟩:=HMR.out (HB.out.mp rfl)
 have HTM:=hid_of hTM
 have HQ:=hid_of hQ
 have hme1:=fun W h=>hme W h hTM
 have hr1:=fun dep ya yn yc W h=>hr dep ya yn yc W h hR
 clear HB HMR hme hr hR hTM hQ
 have la:=block_lt H1.out.1.1
 obtain⟨a0,a1,a2,a3,a4,a5,a6,a7,a8,a9,a10,a11,a12⟩:=zqc H1.out.1.1
 go_wp2_with fail
 clear la a0 a1 a2 a3 a4 a5 a6 a7 a8 a9 a10 a11 a12
 refine (hme1 _ (HP.out.called H1.out.1.2.2)).mono ?_
 rintro e w3 ⟨la,lc,pa,pc,rfl,hPx,hPl,hp1,hp2,hB⟩
 have HPX:=hid_of hPx
 have HPL:=hid_of (sl_low2 hPl H1.out.1.2.2.size)
 have HPC:Hid (pixN p0≤pc∧pc≤maxLen):=⟨hp1,hp2⟩
 have H2:=hid_of (H1.out.called hB)
 clear hPx hPl hp1 hp2 hB H1 hme1
 by_cases hbig:meaN p0≤256
 rotate_left
 ·have HN:=hid_of (HNo.out fun h=>hbig (HC.out.mp h).2)
  have hbg:(256:Int) < (meaN p0:Int):=by omega
  have hbg2:256 < meaN p0:=by omega
  obtain⟨⟨z0,z1,z2,z3,z4,z5,z6,z7,z8,z9,z10,z11,z12,y0,y1,y2,y3,y4,y5,y6,y7,y8,y9,y10,y11,y12⟩,yf,yl⟩:=H2.out.1.cells
  clear HYes HMk hr1
  go_wp2_with fail
  refine bodyPost_ret (v:=.tuple #[.agg #[.int .i64 0,.int .i64 0,.int .i64 0,.int .i64 0,.bool false,.slice none 0 0,.slice none 0 0,.int .i64 0,.int .i64 0,.int .i64 0,.int .i64 0,.slice none 0 0,.slice none 0 0],.bool false]) ?_ rfl (HN.out _ ?_)
  ·simp[results,Tryz.results18,go_sem, *]
  ·exact H2.out.1.stored _ _ _ _ _ _ _ _ _ _ _ _ _ 
 have HY:=hid_of (HYes.out (HC.out.mpr ⟨HTM.out,hbig⟩))
 have hbg:¬ (256:Int) < (meaN p0:Int):=by omega
 have hbg2:¬ 256 < meaN p0:=by omega
 clear HYes HNo HC
 have hde:=fun W=>tblDepth_any (meaN p0) W hn1 hbig
 go_wp2_with fail
 have HS0:MB w #[.int .i64 hw,.int .i64 hh,.int .i64 8,.int .i64 2,.bool lace,.slice ta tn tc,.slice ca cn cc,.int .i64 rw',.int .i64 rh,.int .i64 rc,.int .i64 rd,.slice sa sn sc,.slice ka kn kc] w3 w3.drew:=⟨H2.out.1.called (bdraws (Below.refl _ _) 1),bdraws (Below.refl _ _) 1⟩
 clear H2
 refine wp_region_held (S:=MB w #[.int .i64 hw,.int .i64 hh,.int .i64 8,.int .i64 2,.bool lace,.slice ta tn tc,.slice ca cn cc,.int .i64 rw',.int .i64 rh,.int .i64 rc,.int .i64 rd,.slice sa sn sc,.slice ka kn kc] w3) (by kernel_rfl) ?_
 show wpAnyH _ _ _ _ _ _ _ _ w3.drew
 generalize w3.drew=u0 at HS0 ⊢
 refine zqt 0 (.agg #[.int .i64 hw,.int .i64 hh,.int .i64 8,.int .i64 2,.bool lace,.slice ta tn tc,.slice ca cn cc,.int .i64 rw',.int .i64 rh,.int .i64 rc,.int .i64 rd,.slice sa sn sc,.slice ka kn kc]) rfl ?_ HS0 ?_
 ·intro w' hS
  obtain⟨b0,b1,b2,b3,b4,b5,b6,b7,b8,b9,b10,b11,b12⟩:=zqc hS.1.1; have bl:=block_lt hS.1.1
  go_simp
 simp only [Act.put,zga,zgb,zsa,zsb,zsc]
 refine zqt 1 (.slice la (meaN p0) lc) rfl ?_ HS0 ?_
 ·intro w' _
  go_simp
 simp only [Act.put,zga,zgb,zgc,zsa,zsb,zsc]
 refine zqt 2 (.int .i64 (meaN p0:Int)) rfl ?_ HS0 ?_
 ·intro w' _
  go_simp
 simp only [Act.put,zga,zgb,zgc,zsa,zsb,zsc]
 refine zqt 4 (.slice pa (pixN p0) pc) rfl ?_ HS0 ?_
 ·intro w' _
  go_simp
 simp only [Act.put,zga,zgb,zgc,zsa,zsb,zsc]
 refine wpAnyH_ready (rs:=[3,6]) (by kernel_rfl) (by simp) ?_
 refine AllReadyH.cons rfl (fun K1 hK=>?_) (AllReadyH.cons rfl (fun K1 hK=>?_) AllReadyH.nil)
 ·refine if_wanted (wanted_none rfl) ?_
  simp only [zga,zgb,zgc]
  go_simp
  refine (hde u0).mono ?_
  rintro e u0 ⟨rfl,rfl⟩
  refine hK.out _ _ HS0 (fun _=>?_)
  clear hK
  refine wpAnyH_ready (rs:=[5,6]) (by kernel_rfl) (by simp) ?_
  refine AllReadyH.cons rfl (fun K1 hK=>?_) (AllReadyH.cons rfl (fun K1 hK=>?_) AllReadyH.nil)
  ·refine if_wanted (wanted_none rfl) ?_
   simp only [zga,zgb,zgc]
   go_simp
   refine (hr1 _ pa (pixN p0) pc _ (HP.out.called HS0.1.2.2)).mono ?_
   rintro e u2 ⟨kk,kc1,he,hk,hB⟩
   simp only [HE.out.1,HE.out.2.1,HE.out.2.2.1,HE.out.2.2.2.1,HE.out.2.2.2.2] at he hk
   subst he
   have HT:=HS0.called hB
   refine hK.out _ _ HT (fun HS2=>?_)
   have HA3:Hid (KSL u2 w.heap.size kk kn K):=ksl_low2 hk HS0.1.2.2.size
   clear hK hr1
   clear hB HT hk
   refine zqr 6 rfl (fun K1 hK=>?_)
   refine if_wanted (wanted_none rfl) ?_
   simp only [zga,zgb,zgc]
   go_simp
   refine hK.out _ _ (HS2.called (bstart u2 (.cells #[.int .i64 0,.int .i64 0,.int .i64 0,.int .i64 0,.bool false,.slice none 0 0,.slice none 0 0,.int .i64 0,.int .i64 0,.int .i64 0,.int .i64 0,.slice none 0 0,.slice none 0 0] 37))) (fun HS3=>?_)
   clear hK
   have HX:Hid (TK w #[.int .i64 hw,.int .i64 hh,.int .i64 8,.int .i64 2,.bool lace,.slice ta tn tc,.slice ca cn cc,.int .i64 rw',.int .i64 rh,.int .i64 rc,.int .i64 rd,.slice sa sn sc,.slice ka kn kc] w3 u2.heap.size #[.int .i64 0,.int .i64 0,.int .i64 0,.int .i64 0,.bool false,.slice none 0 0,.slice none 0 0,.int .i64 0,.int .i64 0,.int .i64 0,.int .i64 0,.slice none 0 0,.slice none 0 0] kk kn K (u2.alloc (.cells #[.int .i64 0,.int .i64 0,.int .i64 0,.int .i64 0,.bool false,.slice none 0 0,.slice none 0 0,.int .i64 0,.int .i64 0,.int .i64 0,.int .i64 0,.slice none 0 0,.slice none 0 0] 37))):=⟨⟨HS3.1,heap_alloc_new u2 _,HA3.out.called (bstart u2 _),HS2.1.cells.2.2⟩,HS3.2,HS2.2.size⟩
   generalize u2.alloc (.cells #[.int .i64 0,.int .i64 0,.int .i64 0,.int .i64 0,.bool false,.slice none 0 0,.slice none 0 0,.int .i64 0,.int .i64 0,.int .i64 0,.int .i64 0,.slice none 0 0,.slice none 0 0] 37)=u3 at HX HS3 ⊢
   clear HA3 HS2 HS3
   obtain⟨x0,x1,x2,x3,x4,x5,x6,x7,x8,x9,x10,x11,x12⟩:=zqc HX.out.k.x
   have xf:∀ k,u3.frozen? ⟨u2.heap.size,k,none⟩=false:=unfrozen_of_block HX.out.k.x
   have xl:=block_lt HX.out.k.x
   have H4:=hid_of ((((((((((((((HX.out.set 0 (.int .i64 hw)).set 1 (.int .i64 hh)).set 2 (.int .i64 ((tblD (meaN p0):Nat):Int))).set 3 (.int .i64 3)).set 4 (.bool lace)).set 5 (.slice none 0 0)).set 6 (.slice none 0 0)).set 7 (.int .i64 hw)).set 8 (.int .i64 hh)).set 9 (.int .i64 3)).set 10 (.int .i64 ((tblD (meaN p0):Nat):Int))).set 11 (.slice pa (pixN p0) pc)).set 12 (.slice kk kn kc1)))
   simp only [zsa,zsb,zsc] at H4
   refine zqr 7 rfl (fun K1 hK=>?_)
   refine if_wanted (wanted_none rfl) ?_
   simp only [zga,zgb,zgc]
   go_simp
   refine hK.out _ _ ⟨H4.out.k.m,H4.out.b⟩ (fun HS4=>?_)
   clear hK
   refine wpAnyH_done (by kernel_rfl) ?_ _
   clear HS4 HX xf xl HS0 x0 x1 x2 x3 x4 x5 x6 x7 x8 x9 x10 x11 x12
   generalize (((((((((((((u3.setCell ⟨u2.heap.size,0,none⟩ (.int .i64 hw)).setCell ⟨u2.heap.size,1,none⟩ (.int .i64 hh)).setCell ⟨u2.heap.size,2,none⟩ (.int .i64 ((tblD (meaN p0):Nat):Int))).setCell ⟨u2.heap.size,3,none⟩ (.int .i64 3)).setCell ⟨u2.heap.size,4,none⟩ (.bool lace)).setCell ⟨u2.heap.size,5,none⟩ (.slice none 0 0)).setCell ⟨u2.heap.size,6,none⟩ (.slice none 0 0)).setCell ⟨u2.heap.size,7,none⟩ (.int .i64 hw)).setCell ⟨u2.heap.size,8,none⟩ (.int .i64 hh)).setCell ⟨u2.heap.size,9,none⟩ (.int .i64 3)).setCell ⟨u2.heap.size,10,none⟩ (.int .i64 ((tblD (meaN p0):Nat):Int))).setCell ⟨u2.heap.size,11,none⟩ (.slice pa (pixN p0) pc)).setCell ⟨u2.heap.size,12,none⟩ (.slice kk kn kc1))=w4 at H4 ⊢
   generalize u2.heap.size=X at H4 ⊢
   go_wp2_with fail
   refine (tableOf_any la (meaN p0) lc (tblV p0) w4 (px_came_on HPX.out H4.out.b) hbig (fun j hj=>HQ.out j hj)).mono ?_
   rintro e w5 ⟨xa,xt,ya,yc,rfl,hT,hC,hB⟩
   rw[← HMM.out] at hC ⊢
   have hps:=HPL.out.called H4.out.b
   have H5:Hid (WX w #[.int .i64 hw,.int .i64 hh,.int .i64 8,.int .i64 2,.bool lace,.slice ta tn tc,.slice ca cn cc,.int .i64 rw',.int .i64 rh,.int .i64 rc,.int .i64 rd,.slice sa sn sc,.slice ka kn kc] X #[.int .i64 hw,.int .i64 hh,.int .i64 ((tblD (meaN p0):Nat):Int),.int .i64 3,.bool lace,.slice none 0 0,.slice none 0 0,.int .i64 hw,.int .i64 hh,.int .i64 3,.int .i64 ((tblD (meaN p0):Nat):Int),.slice pa (pixN p0) pc,.slice kk kn kc1] (tblP p0) ⟨xa,xt,ya,yc,pa,pc,kk,kc1⟩ w5):=⟨⟨H4.out.k.m.called hB,HMk.out _ _ _ _ _ _ _ _ _ (hT.low H4.out.k.m.2.2.size) (sl_low2 hC H4.out.k.m.2.2.size) (hps.called hB) (by rw [HE.out.1,HE.out.2.1]; exact H4.out.k.k.called hB) (sl_apart hps hC) HPC.out⟩,H4.out.k.x.called hB,H4.out.k.lt⟩
   clear hT hC hB hps H4 HMk HPX HPL HPC HQ HMM hn1 hn2 hbg hbg2
   obtain⟨x0,x1,x2,x3,x4,x5,x6,x7,x8,x9,x10,x11,x12⟩:=zqc H5.out.x
   have xf:∀ k,w5.frozen? ⟨X,k,none⟩=false:=unfrozen_of_block H5.out.x
   have xl:=block_lt H5.out.x
   have n0:¬ X=w.heap.size:=by have:=H5.out.lt; omega
   have n1:¬ X=w.heap.size+1:=by have:=H5.out.lt; omega
   have n2:¬ w.heap.size=X:=by have:=H5.out.lt; omega
   have n3:¬ w.heap.size+1=X:=by have:=H5.out.lt; omega
   obtain⟨⟨z0,z1,z2,z3,z4,z5,z6,z7,z8,z9,z10,z11,z12,y0,y1,y2,y3,y4,y5,y6,y7,y8,y9,y10,y11,y12⟩,yf,yl⟩:=H5.out.p.m.cells
   go_wp2_with fail
   refine bodyPost_ret (v:=.tuple #[.agg #[.int .i64 hw,.int .i64 hh,.int .i64 ((tblD (meaN p0):Nat):Int),.int .i64 3,.bool lace,.slice xa (meaN p0) xt,.slice ya M yc,.int .i64 hw,.int .i64 hh,.int .i64 3,.int .i64 ((tblD (meaN p0):Nat):Int),.slice pa (pixN p0) pc,.slice kk kn kc1],.bool true]) ?_ rfl (HY.out _ xa ya pa kk xt yc pc kc1 ?_ ?_)
   ·simp[results,Tryz.results18,go_sem, *]
   ·exact (((H5.out.set 5 _).set 6 _).p.stored _ _ _ _ _ _ _ _ _ _ _ _ _ ).1
   ·exact (((H5.out.set 5 _).set 6 _).p.stored _ _ _ _ _ _ _ _ _ _ _ _ _ ).2
  ·refine if_wanted (wanted_none rfl) ?_
   simp only [zga,zgb,zgc]
   go_simp
   refine hK.out _ _ (HS0.called (bstart u0 (.cells #[.int .i64 0,.int .i64 0,.int .i64 0,.int .i64 0,.bool false,.slice none 0 0,.slice none 0 0,.int .i64 0,.int .i64 0,.int .i64 0,.int .i64 0,.slice none 0 0,.slice none 0 0] 37))) (fun HS1=>?_)
   clear hK
   have hblk0:BoxAt (u0.alloc (.cells #[.int .i64 0,.int .i64 0,.int .i64 0,.int .i64 0,.bool false,.slice none 0 0,.slice none 0 0,.int .i64 0,.int .i64 0,.int .i64 0,.int .i64 0,.slice none 0 0,.slice none 0 0] 37)) u0.heap.size #[.int .i64 0,.int .i64 0,.int .i64 0,.int .i64 0,.bool false,.slice none 0 0,.slice none 0 0,.int .i64 0,.int .i64 0,.int .i64 0,.int .i64 0,.slice none 0 0,.slice none 0 0]:=heap_alloc_new u0 _
   have hX1:w.heap.size+1 < u0.heap.size:=HS0.1.cells.2.2
   have hX2:w3.heap.size≤u0.heap.size:=HS0.2.size
   generalize u0.alloc (.cells #[.int .i64 0,.int .i64 0,.int .i64 0,.int .i64 0,.bool false,.slice none 0 0,.slice none 0 0,.int .i64 0,.int .i64 0,.int .i64 0,.int .i64 0,.slice none 0 0,.slice none 0 0] 37)=u1 at HS1 hblk0 ⊢
   refine zqr 5 rfl (fun K1 hK=>?_)
   refine if_wanted (wanted_none rfl) ?_
   simp only [zga,zgb,zgc]
   go_simp
   refine (hr1 _ pa (pixN p0) pc _ (HP.out.called HS1.1.2.2)).mono ?_
   rintro e u2 ⟨kk,kc1,he,hk,hB⟩
   simp only [HE.out.1,HE.out.2.1,HE.out.2.2.1,HE.out.2.2.2.1,HE.out.2.2.2.2] at he hk
   subst he
   have HT:=HS1.called hB
   refine hK.out _ _ HT (fun HS2=>?_)
   have HA3:Hid (KSL u2 w.heap.size kk kn K):=ksl_low2 hk HS1.1.2.2.size
   clear hK hr1
   have HX:Hid (TK w #[.int .i64 hw,.int .i64 hh,.int .i64 8,.int .i64 2,.bool lace,.slice ta tn tc,.slice ca cn cc,.int .i64 rw',.int .i64 rh,.int .i64 rc,.int .i64 rd,.slice sa sn sc,.slice ka kn kc] w3 u0.heap.size #[.int .i64 0,.int .i64 0,.int .i64 0,.int .i64 0,.bool false,.slice none 0 0,.slice none 0 0,.int .i64 0,.int .i64 0,.int .i64 0,.int .i64 0,.slice none 0 0,.slice none 0 0] kk kn K u2):=⟨⟨HS2.1,hblk0.called hB,HA3.out,hX1⟩,HS2.2,hX2⟩
   clear hB HT hk hblk0 HS1 hX1 hX2 HA3 HS2
   obtain⟨x0,x1,x2,x3,x4,x5,x6,x7,x8,x9,x10,x11,x12⟩:=zqc HX.out.k.x
   have xf:∀ k,u2.frozen? ⟨u0.heap.size,k,none⟩=false:=unfrozen_of_block HX.out.k.x
   have xl:=block_lt HX.out.k.x
   have H4:=hid_of ((((((((((((((HX.out.set 0 (.int .i64 hw)).set 1 (.int .i64 hh)).set 2 (.int .i64 ((tblD (meaN p0):Nat):Int))).set 3 (.int .i64 3)).set 4 (.bool lace)).set 5 (.slice none 0 0)).set 6 (.slice none 0 0)).set 7 (.int .i64 hw)).set 8 (.int .i64 hh)).set 9 (.int .i64 3)).set 10 (.int .i64 ((tblD (meaN p0):Nat):Int))).set 11 (.slice pa (pixN p0) pc)).set 12 (.slice kk kn kc1)))
   simp only [zsa,zsb,zsc] at H4
   refine zqr 7 rfl (fun K1 hK=>?_)
   refine if_wanted (wanted_none rfl) ?_
   simp only [zga,zgb,zgc]
   go_simp
   refine hK.out _ _ ⟨H4.out.k.m,H4.out.b⟩ (fun HS4=>?_)
   clear hK
   refine wpAnyH_done (by kernel_rfl) ?_ _
   clear HS4 HX xf xl HS0 x0 x1 x2 x3 x4 x5 x6 x7 x8 x9 x10 x11 x12
   generalize (((((((((((((u2.setCell ⟨u0.heap.size,0,none⟩ (.int .i64 hw)).setCell ⟨u0.heap.size,1,none⟩ (.int .i64 hh)).setCell ⟨u0.heap.size,2,none⟩ (.int .i64 ((tblD (meaN p0):Nat):Int))).setCell ⟨u0.heap.size,3,none⟩ (.int .i64 3)).setCell ⟨u0.heap.size,4,none⟩ (.bool lace)).setCell ⟨u0.heap.size,5,none⟩ (.slice none 0 0)).setCell ⟨u0.heap.size,6,none⟩ (.slice none 0 0)).setCell ⟨u0.heap.size,7,none⟩ (.int .i64 hw)).setCell ⟨u0.heap.size,8,none⟩ (.int .i64 hh)).setCell ⟨u0.heap.size,9,none⟩ (.int .i64 3)).setCell ⟨u0.heap.size,10,none⟩ (.int .i64 ((tblD (meaN p0):Nat):Int))).setCell ⟨u0.heap.size,11,none⟩ (.slice pa (pixN p0) pc)).setCell ⟨u0.heap.size,12,none⟩ (.slice kk kn kc1))=w4 at H4 ⊢
   generalize u0.heap.size=X at H4 ⊢
   go_wp2_with fail
   refine (tableOf_any la (meaN p0) lc (tblV p0) w4 (px_came_on HPX.out H4.out.b) hbig (fun j hj=>HQ.out j hj)).mono ?_
   rintro e w5 ⟨xa,xt,ya,yc,rfl,hT,hC,hB⟩
   rw[← HMM.out] at hC ⊢
   have hps:=HPL.out.called H4.out.b
   have H5:Hid (WX w #[.int .i64 hw,.int .i64 hh,.int .i64 8,.int .i64 2,.bool lace,.slice ta tn tc,.slice ca cn cc,.int .i64 rw',.int .i64 rh,.int .i64 rc,.int .i64 rd,.slice sa sn sc,.slice ka kn kc] X #[.int .i64 hw,.int .i64 hh,.int .i64 ((tblD (meaN p0):Nat):Int),.int .i64 3,.bool lace,.slice none 0 0,.slice none 0 0,.int .i64 hw,.int .i64 hh,.int .i64 3,.int .i64 ((tblD (meaN p0):Nat):Int),.slice pa (pixN p0) pc,.slice kk kn kc1] (tblP p0) ⟨xa,xt,ya,yc,pa,pc,kk,kc1⟩ w5):=⟨⟨H4.out.k.m.called hB,HMk.out _ _ _ _ _ _ _ _ _ (hT.low H4.out.k.m.2.2.size) (sl_low2 hC H4.out.k.m.2.2.size) (hps.called hB) (by rw [HE.out.1,HE.out.2.1]; exact H4.out.k.k.called hB) (sl_apart hps hC) HPC.out⟩,H4.out.k.x.called hB,H4.out.k.lt⟩
   clear hT hC hB hps H4 HMk HPX HPL HPC HQ HMM hn1 hn2 hbg hbg2
   obtain⟨x0,x1,x2,x3,x4,x5,x6,x7,x8,x9,x10,x11,x12⟩:=zqc H5.out.x
   have xf:∀ k,w5.frozen? ⟨X,k,none⟩=false:=unfrozen_of_block H5.out.x
   have xl:=block_lt H5.out.x
   have n0:¬ X=w.heap.size:=by have:=H5.out.lt; omega
   have n1:¬ X=w.heap.size+1:=by have:=H5.out.lt; omega
   have n2:¬ w.heap.size=X:=by have:=H5.out.lt; omega
   have n3:¬ w.heap.size+1=X:=by have:=H5.out.lt; omega
   obtain⟨⟨z0,z1,z2,z3,z4,z5,z6,z7,z8,z9,z10,z11,z12,y0,y1,y2,y3,y4,y5,y6,y7,y8,y9,y10,y11,y12⟩,yf,yl⟩:=H5.out.p.m.cells
   go_wp2_with fail
   refine bodyPost_ret (v:=.tuple #[.agg #[.int .i64 hw,.int .i64 hh,.int .i64 ((tblD (meaN p0):Nat):Int),.int .i64 3,.bool lace,.slice xa (meaN p0) xt,.slice ya M yc,.int .i64 hw,.int .i64 hh,.int .i64 3,.int .i64 ((tblD (meaN p0):Nat):Int),.slice pa (pixN p0) pc,.slice kk kn kc1],.bool true]) ?_ rfl (HY.out _ xa ya pa kk xt yc pc kc1 ?_ ?_)
   ·simp[results,Tryz.results18,go_sem, *]
   ·exact (((H5.out.set 5 _).set 6 _).p.stored _ _ _ _ _ _ _ _ _ _ _ _ _ ).1
   ·exact (((H5.out.set 5 _).set 6 _).p.stored _ _ _ _ _ _ _ _ _ _ _ _ _ ).2
 ·refine if_wanted (wanted_none rfl) ?_
  simp only [zga,zgb,zgc]
  go_simp
  refine hK.out _ _ (HS0.called (bstart u0 (.cells #[.int .i64 0,.int .i64 0,.int .i64 0,.int .i64 0,.bool false,.slice none 0 0,.slice none 0 0,.int .i64 0,.int .i64 0,.int .i64 0,.int .i64 0,.slice none 0 0,.slice none 0 0] 37))) (fun HS1=>?_)
  clear hK
  have hblk0:BoxAt (u0.alloc (.cells #[.int .i64 0,.int .i64 0,.int .i64 0,.int .i64 0,.bool false,.slice none 0 0,.slice none 0 0,.int .i64 0,.int .i64 0,.int .i64 0,.int .i64 0,.slice none 0 0,.slice none 0 0] 37)) u0.heap.size #[.int .i64 0,.int .i64 0,.int .i64 0,.int .i64 0,.bool false,.slice none 0 0,.slice none 0 0,.int .i64 0,.int .i64 0,.int .i64 0,.int .i64 0,.slice none 0 0,.slice none 0 0]:=heap_alloc_new u0 _
  have hX1:w.heap.size+1 < u0.heap.size:=HS0.1.cells.2.2
  have hX2:w3.heap.size≤u0.heap.size:=HS0.2.size
  generalize u0.alloc (.cells #[.int .i64 0,.int .i64 0,.int .i64 0,.int .i64 0,.bool false,.slice none 0 0,.slice none 0 0,.int .i64 0,.int .i64 0,.int .i64 0,.int .i64 0,.slice none 0 0,.slice none 0 0] 37)=u1 at HS1 hblk0 ⊢
  refine zqr 3 rfl (fun K1 hK=>?_)
  refine if_wanted (wanted_none rfl) ?_
  simp only [zga,zgb,zgc]
  go_simp
  refine (hde u1).mono ?_
  rintro e u1 ⟨rfl,rfl⟩
  refine hK.out _ _ HS1 (fun _=>?_)
  clear hK
  refine zqr 5 rfl (fun K1 hK=>?_)
  refine if_wanted (wanted_none rfl) ?_
  simp only [zga,zgb,zgc]
  go_simp
  refine (hr1 _ pa (pixN p0) pc _ (HP.out.called HS1.1.2.2)).mono ?_
  rintro e u2 ⟨kk,kc1,he,hk,hB⟩
  simp only [HE.out.1,HE.out.2.1,HE.out.2.2.1,HE.out.2.2.2.1,HE.out.2.2.2.2] at he hk
  subst he
  have HT:=HS1.called hB
  refine hK.out _ _ HT (fun HS2=>?_)
  have HA3:Hid (KSL u2 w.heap.size kk kn K):=ksl_low2 hk HS1.1.2.2.size
  clear hK hr1
  have HX:Hid (TK w #[.int .i64 hw,.int .i64 hh,.int .i64 8,.int .i64 2,.bool lace,.slice ta tn tc,.slice ca cn cc,.int .i64 rw',.int .i64 rh,.int .i64 rc,.int .i64 rd,.slice sa sn sc,.slice ka kn kc] w3 u0.heap.size #[.int .i64 0,.int .i64 0,.int .i64 0,.int .i64 0,.bool false,.slice none 0 0,.slice none 0 0,.int .i64 0,.int .i64 0,.int .i64 0,.int .i64 0,.slice none 0 0,.slice none 0 0] kk kn K u2):=⟨⟨HS2.1,hblk0.called hB,HA3.out,hX1⟩,HS2.2,hX2⟩
  clear hB HT hk hblk0 HS1 hX1 hX2 HA3 HS2
  obtain⟨x0,x1,x2,x3,x4,x5,x6,x7,x8,x9,x10,x11,x12⟩:=zqc HX.out.k.x
  have xf:∀ k,u2.frozen? ⟨u0.heap.size,k,none⟩=false:=unfrozen_of_block HX.out.k.x
  have xl:=block_lt HX.out.k.x
  have H4:=hid_of ((((((((((((((HX.out.set 0 (.int .i64 hw)).set 1 (.int .i64 hh)).set 2 (.int .i64 ((tblD (meaN p0):Nat):Int))).set 3 (.int .i64 3)).set 4 (.bool lace)).set 5 (.slice none 0 0)).set 6 (.slice none 0 0)).set 7 (.int .i64 hw)).set 8 (.int .i64 hh)).set 9 (.int .i64 3)).set 10 (.int .i64 ((tblD (meaN p0):Nat):Int))).set 11 (.slice pa (pixN p0) pc)).set 12 (.slice kk kn kc1)))
  simp only [zsa,zsb,zsc] at H4
  refine zqr 7 rfl (fun K1 hK=>?_)
  refine if_wanted (wanted_none rfl) ?_
  simp only [zga,zgb,zgc]
  go_simp
  refine hK.out _ _ ⟨H4.out.k.m,H4.out.b⟩ (fun HS4=>?_)
  clear hK
  refine wpAnyH_done (by kernel_rfl) ?_ _
  clear HS4 HX xf xl HS0 x0 x1 x2 x3 x4 x5 x6 x7 x8 x9 x10 x11 x12
  generalize (((((((((((((u2.setCell ⟨u0.heap.size,0,none⟩ (.int .i64 hw)).setCell ⟨u0.heap.size,1,none⟩ (.int .i64 hh)).setCell ⟨u0.heap.size,2,none⟩ (.int .i64 ((tblD (meaN p0):Nat):Int))).setCell ⟨u0.heap.size,3,none⟩ (.int .i64 3)).setCell ⟨u0.heap.size,4,none⟩ (.bool lace)).setCell ⟨u0.heap.size,5,none⟩ (.slice none 0 0)).setCell ⟨u0.heap.size,6,none⟩ (.slice none 0 0)).setCell ⟨u0.heap.size,7,none⟩ (.int .i64 hw)).setCell ⟨u0.heap.size,8,none⟩ (.int .i64 hh)).setCell ⟨u0.heap.size,9,none⟩ (.int .i64 3)).setCell ⟨u0.heap.size,10,none⟩ (.int .i64 ((tblD (meaN p0):Nat):Int))).setCell ⟨u0.heap.size,11,none⟩ (.slice pa (pixN p0) pc)).setCell ⟨u0.heap.size,12,none⟩ (.slice kk kn kc1))=w4 at H4 ⊢
  generalize u0.heap.size=X at H4 ⊢
  go_wp2_with fail
  refine (tableOf_any la (meaN p0) lc (tblV p0) w4 (px_came_on HPX.out H4.out.b) hbig (fun j hj=>HQ.out j hj)).mono ?_
  rintro e w5 ⟨xa,xt,ya,yc,rfl,hT,hC,hB⟩
  rw[← HMM.out] at hC ⊢
  have hps:=HPL.out.called H4.out.b
  have H5:Hid (WX w #[.int .i64 hw,.int .i64 hh,.int .i64 8,.int .i64 2,.bool lace,.slice ta tn tc,.slice ca cn cc,.int .i64 rw',.int .i64 rh,.int .i64 rc,.int .i64 rd,.slice sa sn sc,.slice ka kn kc] X #[.int .i64 hw,.int .i64 hh,.int .i64 ((tblD (meaN p0):Nat):Int),.int .i64 3,.bool lace,.slice none 0 0,.slice none 0 0,.int .i64 hw,.int .i64 hh,.int .i64 3,.int .i64 ((tblD (meaN p0):Nat):Int),.slice pa (pixN p0) pc,.slice kk kn kc1] (tblP p0) ⟨xa,xt,ya,yc,pa,pc,kk,kc1⟩ w5):=⟨⟨H4.out.k.m.called hB,HMk.out _ _ _ _ _ _ _ _ _ (hT.low H4.out.k.m.2.2.size) (sl_low2 hC H4.out.k.m.2.2.size) (hps.called hB) (by rw [HE.out.1,HE.out.2.1]; exact H4.out.k.k.called hB) (sl_apart hps hC) HPC.out⟩,H4.out.k.x.called hB,H4.out.k.lt⟩
  clear hT hC hB hps H4 HMk HPX HPL HPC HQ HMM hn1 hn2 hbg hbg2
  obtain⟨x0,x1,x2,x3,x4,x5,x6,x7,x8,x9,x10,x11,x12⟩:=zqc H5.out.x
  have xf:∀ k,w5.frozen? ⟨X,k,none⟩=false:=unfrozen_of_block H5.out.x
  have xl:=block_lt H5.out.x
  have n0:¬ X=w.heap.size:=by have:=H5.out.lt; omega
  have n1:¬ X=w.heap.size+1:=by have:=H5.out.lt; omega
  have n2:¬ w.heap.size=X:=by have:=H5.out.lt; omega
  have n3:¬ w.heap.size+1=X:=by have:=H5.out.lt; omega
  obtain⟨⟨z0,z1,z2,z3,z4,z5,z6,z7,z8,z9,z10,z11,z12,y0,y1,y2,y3,y4,y5,y6,y7,y8,y9,y10,y11,y12⟩,yf,yl⟩:=H5.out.p.m.cells
  go_wp2_with fail
  refine bodyPost_ret (v:=.tuple #[.agg #[.int .i64 hw,.int .i64 hh,.int .i64 ((tblD (meaN p0):Nat):Int),.int .i64 3,.bool lace,.slice xa (meaN p0) xt,.slice ya M yc,.int .i64 hw,.int .i64 hh,.int .i64 3,.int .i64 ((tblD (meaN p0):Nat):Int),.slice pa (pixN p0) pc,.slice kk kn kc1],.bool true]) ?_ rfl (HY.out _ xa ya pa kk xt yc pc kc1 ?_ ?_)
  ·simp[results,Tryz.results18,go_sem, *]
  ·exact (((H5.out.set 5 _).set 6 _).p.stored _ _ _ _ _ _ _ _ _ _ _ _ _ ).1
  ·exact (((H5.out.set 5 _).set 6 _).p.stored _ _ _ _ _ _ _ _ _ _ _ _ _ ).2
set_option maxRecDepth 100000 in
set_option maxHeartbeats 6400000 in
theorem implTbl_6 (p:Pic) (q:PicA) (w:World) (hP:PngIn w p q) (hZ:PngSz p) (hcc:p.hc=6) (hdd:p.hd=8):
  Calls Tryz.prog 18 #[pngV p q] w (LessPost (TblC p) (tblP p) w):=by
 have hok:=fun W h=>implMay p q W h hZ
 have hme:=fun W h hM=>tbm_any p q W h hZ hM
 have hr:=fun dep ya yn yc W (h:PngIn W p q) (hR:PngR p)=>implRetold p q 3 dep ya yn yc W h.k (by have:=(png_fits hR).2.2.2.2; omega) hZ.m
 have HNo:Hid (¬ TblC p→∀ W,Below w.heap.size w W→LessPost (TblC p) (tblP p) w (.returned (.tuple #[.agg #[.int .i64 0,.int .i64 0,.int .i64 0,.int .i64 0,.bool false,.slice none 0 0,.slice none 0 0,.int .i64 0,.int .i64 0,.int .i64 0,.int .i64 0,.slice none 0 0,.slice none 0 0],.bool false])) W):=fun h W b=>.inl ⟨h,rfl,b⟩
 have HYes:Hid (TblC p→∀ (W:World) (t s c k:Option Addr) (tt cs cx kx:Nat),PngSL W w.heap.size (tblP p) ⟨t,tt,s,cs,c,cx,k,kx⟩→Below w.heap.size w W→LessPost (TblC p) (tblP p) w (.returned (.tuple #[.agg #[.int .i64 p.hw,.int .i64 p.hh,.int .i64 (tblD (meaN p):Nat),.int .i64 3,.bool p.lace,.slice t (meaN p) tt,.slice s (trimC (cvL (tblV p) (meaN p)) (meaN p)) cs,.int .i64 p.hw,.int .i64 p.hh,.int .i64 3,.int .i64 (tblD (meaN p):Nat),.slice c (pixN p) cx,.slice k p.kn kx],.bool true])) W):=fun h W t s c k tt cs cx kx h1 h6=>.inr ⟨h,_,rfl,h1,h6⟩
 have HMk:Hid (∀ (W:World) (t s c k:Option Addr) (tt cs cx kx:Nat),RgbSL W w.heap.size t (meaN p) (fun j=>((tblV p j).1 / 257,(tblV p j).2.1 / 257,(tblV p j).2.2.1 / 257))→SL W w.heap.size s (trimC (cvL (tblV p) (meaN p)) (meaN p)) cs (fun j=>(tblV p j).2.2.2 / 257)→SL W w.heap.size c (pixN p) cx (fun i=>(plc (pq p) i:Int))→KSL W w.heap.size k p.kn p.K→(trimC (cvL (tblV p) (meaN p)) (meaN p)=0∨pixN p=0∨s≠c)→pixN p≤cx∧cx≤maxLen→PngSL W w.heap.size (tblP p) ⟨t,tt,s,cs,c,cx,k,kx⟩):=fun W t s c k tt cs cx kx h1 h2 h3 h4 h5 h6=>⟨h1,h2,h3,h4,h5,h6⟩
 have HMR:Hid (MayR p→TblM p∧PngR p∧1≤meaN p∧meaN p≤576∧(∀ j,j < meaN p→QOk (tblV p j))):=fun h=>by
  have hM:TblM p:=⟨h,by omega,hdd⟩
  exact⟨hM,h.1,meaN_pos h.1,Nat.le_trans (meaN_le p) (png_n h.1).2.2,fun j hj=>tblV_ok hM hj⟩
 have HC:Hid (TblC p↔TblM p∧meaN p≤256):=Iff.rfl
 have HP:=hid_of hP
 clear hP hZ
 unfold TbmPost at hme
 obtain⟨M,hMM⟩:∃ M,M=trimC (cvL (tblV p) (meaN p)) (meaN p):=⟨_,rfl⟩
 rw[← hMM] at HYes HMk
 obtain⟨p0,hp0⟩:∃ p0,p0=p:=⟨_,rfl⟩
 obtain⟨hw,hh,hd,hc',lace,tn,T,cn,C,rw',rh,rc,rd,sn,S,kn,K⟩:=p
 obtain⟨ta,tc,ca,cc,sa,sc,ka,kc⟩:=q
 simp only [pngV] at hok hme hr HYes HNo ⊢
 replace hcc:hc'=6:=hcc
 replace hdd:hd=8:=hdd
 have HE:Hid (p0.kn=kn∧p0.K=K∧p0.hw=hw∧p0.hh=hh∧p0.lace=lace):=by rw [hp0]; exact⟨rfl,rfl,rfl,rfl,rfl⟩
 rw[← hp0] at hok hme hr HP HYes HNo HMR HMk HC hMM ⊢
 clear hp0
 have HMM:=hid_of hMM
 clear hMM
 subst hcc hdd
 have H0:Hid (RT w #[.int .i64 hw,.int .i64 hh,.int .i64 8,.int .i64 6,.bool lace,.slice ta tn tc,.slice ca cn cc,.int .i64 rw',.int .i64 rh,.int .i64 rc,.int .i64 rd,.slice sa sn sc,.slice ka kn kc] #[.int .i64 hw,.int .i64 hh,.int .i64 8,.int .i64 6,.bool lace] (((w.alloc (.cells #[.int .i64 hw,.int .i64 hh,.int .i64 8,.int .i64 6,.bool lace,.slice ta tn tc,.slice ca cn cc,.int .i64 rw',.int .i64 rh,.int .i64 rc,.int .i64 rd,.slice sa sn sc,.slice ka kn kc] 37)).alloc (.cells #[.int .i64 0,.int .i64 0,.int .i64 0,.int .i64 0,.bool false,.slice none 0 0,.slice none 0 0,.int .i64 0,.int .i64 0,.int .i64 0,.int .i64 0,.slice none 0 0,.slice none 0 0] 37)).alloc (.cells #[.int .i64 hw,.int .i64 hh,.int .i64 8,.int .i64 6,.bool lace] 32))):=RT.start w _ _ _ rfl
 go_enter Tryz.func18,Tryz.ntmps18
 go_wp2_with fail
 generalize ((w.alloc (.cells #[.int .i64 hw,.int .i64 hh,.int .i64 8,.int .i64 6,.bool lace,.slice ta tn tc,.slice ca cn cc,.int .i64 rw',.int .i64 rh,.int .i64 rc,.int .i64 rd,.slice sa sn sc,.slice ka kn kc] 37)).alloc (.cells #[.int .i64 0,.int .i64 0,.int .i64 0,.int .i64 0,.bool false,.slice none 0 0,.slice none 0 0,.int .i64 0,.int .i64 0,.int .i64 0,.int .i64 0,.slice none 0 0,.slice none 0 0] 37)).alloc (.cells #[.int .i64 hw,.int .i64 hh,.int .i64 8,.int .i64 6,.bool lace] 32)=w1 at H0 ⊢
 refine (hok _ (HP.out.called H0.out.1.2.2)).mono ?_
 rintro e w2 ⟨b,rfl,hb,hB⟩
 have H1:=hid_of (H0.out.called hB)
 have HB:=hid_of hb
 clear hB hb H0 hok
 cases b
 ·have HN:=hid_of (HNo.out fun h=>by have:=HB.out.mpr h.1.1; cases this)
  obtain⟨⟨z0,z1,z2,z3,z4,z5,z6,z7,z8,z9,z10,z11,z12,y0,y1,y2,y3,y4,y5,y6,y7,y8,y9,y10,y11,y12⟩,yf,yl⟩:=H1.out.1.cells
  clear HYes HMk hme hr HB
  go_wp2_with fail
  refine bodyPost_ret (v:=.tuple #[.agg #[.int .i64 0,.int .i64 0,.int .i64 0,.int .i64 0,.bool false,.slice none 0 0,.slice none 0 0,.int .i64 0,.int .i64 0,.int .i64 0,.int .i64 0,.slice none 0 0,.slice none 0 0],.bool false]) ?_ rfl (HN.out _ ?_)
  ·simp[results,Tryz.results18,go_sem, *]
  ·exact H1.out.1.stored _ _ _ _ _ _ _ _ _ _ _ _ _ 
 obtain⟨hTM,hR,hn1,hn2,hQ⟩:=HMR.out (HB.out.mp rfl)
 have HTM:=hid_of hTM
 have HQ:=hid_of hQ
 have hme1:=fun W h=>hme W h hTM
 have hr1:=fun dep ya yn yc W h=>hr dep ya yn yc W h hR
 clear HB HMR hme hr hR hTM hQ
 have la:=block_lt H1.out.1.1
 obtain⟨a0,a1,a2,a3,a4,a5,a6,a7,a8,a9,a10,a11,a12⟩:=zqc H1.out.1.1
 go_wp2_with fail
 clear la a0 a1 a2 a3 a4 a5 a6 a7 a8 a9 a10 a11 a12
 refine (hme1 _ (HP.out.called H1.out.1.2.2)).mono ?_
 rintro e w3 ⟨la,lc,pa,pc,rfl,hPx,hPl,hp1,hp2,hB⟩
 have HPX:=hid_of hPx
 have HPL:=hid_of (sl_low2 hPl H1.out.1.2.2.size)
 have HPC:Hid (pixN p0≤pc∧pc≤maxLen):=⟨hp1,hp2⟩
 have H2:=hid_of (H1.out.called hB)
 clear hPx hPl hp1 hp2 hB H1 hme1
 by_cases hbig:meaN p0≤256
 rotate_left
 ·have HN:=hid_of (HNo.out fun h=>hbig (HC.out.mp h).2)
  have hbg:(256:Int) < (meaN p0:Int):=by omega
  have hbg2:256 < meaN p0:=by omega
  obtain⟨⟨z0,z1,z2,z3,z4,z5,z6,z7,z8,z9,z10,z11,z12,y0,y1,y2,y3,y4,y5,y6,y7,y8,y9,y10,y11,y12⟩,yf,yl⟩:=H2.out.1.cells
  clear HYes HMk hr1
  go_wp2_with fail
  refine bodyPost_ret (v:=.tuple #[.agg #[.int .i64 0,.int .i64 0,.int .i64 0,.int .i64 0,.bool false,.slice none 0 0,.slice none 0 0,.int .i64 0,.int .i64 0,.int .i64 0,.int .i64 0,.slice none 0 0,.slice none 0 0],.bool false]) ?_ rfl (HN.out _ ?_)
  ·simp[results,Tryz.results18,go_sem, *]
  ·exact H2.out.1.stored _ _ _ _ _ _ _ _ _ _ _ _ _ 
 have HY:=hid_of (HYes.out (HC.out.mpr ⟨HTM.out,hbig⟩))
 have hbg:¬ (256:Int) < (meaN p0:Int):=by omega
 have hbg2:¬ 256 < meaN p0:=by omega
 clear HYes HNo HC
 have hde:=fun W=>tblDepth_any (meaN p0) W hn1 hbig
 go_wp2_with fail
 have HS0:MB w #[.int .i64 hw,.int .i64 hh,.int .i64 8,.int .i64 6,.bool lace,.slice ta tn tc,.slice ca cn cc,.int .i64 rw',.int .i64 rh,.int .i64 rc,.int .i64 rd,.slice sa sn sc,.slice ka kn kc] w3 w3.drew:=⟨H2.out.1.called (bdraws (Below.refl _ _) 1),bdraws (Below.refl _ _) 1⟩
 clear H2
 refine wp_region_held (S:=MB w #[.int .i64 hw,.int .i64 hh,.int .i64 8,.int .i64 6,.bool lace,.slice ta tn tc,.slice ca cn cc,.int .i64 rw',.int .i64 rh,.int .i64 rc,.int .i64 rd,.slice sa sn sc,.slice ka kn kc] w3) (by kernel_rfl) ?_
 show wpAnyH _ _ _ _ _ _ _ _ w3.drew
 generalize w3.drew=u0 at HS0 ⊢
 refine zqt 0 (.agg #[.int .i64 hw,.int .i64 hh,.int .i64 8,.int .i64 6,.bool lace,.slice ta tn tc,.slice ca cn cc,.int .i64 rw',.int .i64 rh,.int .i64 rc,.int .i64 rd,.slice sa sn sc,.slice ka kn kc]) rfl ?_ HS0 ?_
 ·intro w' hS
  obtain⟨b0,b1,b2,b3,b4,b5,b6,b7,b8,b9,b10,b11,b12⟩:=zqc hS.1.1; have bl:=block_lt hS.1.1
  go_simp
 simp only [Act.put,zga,zgb,zsa,zsb,zsc]
 refine zqt 1 (.slice la (meaN p0) lc) rfl ?_ HS0 ?_
 ·intro w' _
  go_simp
 simp only [Act.put,zga,zgb,zgc,zsa,zsb,zsc]
 refine zqt 2 (.int .i64 (meaN p0:Int)) rfl ?_ HS0 ?_
 ·intro w' _
  go_simp
 simp only [Act.put,zga,zgb,zgc,zsa,zsb,zsc]
 refine zqt 4 (.slice pa (pixN p0) pc) rfl ?_ HS0 ?_
 ·intro w' _
  go_simp
 simp only [Act.put,zga,zgb,zgc,zsa,zsb,zsc]
 refine wpAnyH_ready (rs:=[3,6]) (by kernel_rfl) (by simp) ?_
 refine AllReadyH.cons rfl (fun K1 hK=>?_) (AllReadyH.cons rfl (fun K1 hK=>?_) AllReadyH.nil)
 ·refine if_wanted (wanted_none rfl) ?_
  simp only [zga,zgb,zgc]
  go_simp
  refine (hde u0).mono ?_
  rintro e u0 ⟨rfl,rfl⟩
  refine hK.out _ _ HS0 (fun _=>?_)
  clear hK
  refine wpAnyH_ready (rs:=[5,6]) (by kernel_rfl) (by simp) ?_
  refine AllReadyH.cons rfl (fun K1 hK=>?_) (AllReadyH.cons rfl (fun K1 hK=>?_) AllReadyH.nil)
  ·refine if_wanted (wanted_none rfl) ?_
   simp only [zga,zgb,zgc]
   go_simp
   refine (hr1 _ pa (pixN p0) pc _ (HP.out.called HS0.1.2.2)).mono ?_
   rintro e u2 ⟨kk,kc1,he,hk,hB⟩
   simp only [HE.out.1,HE.out.2.1,HE.out.2.2.1,HE.out.2.2.2.1,HE.out.2.2.2.2] at he hk
   subst he
   have HT:=HS0.called hB
   refine hK.out _ _ HT (fun HS2=>?_)
   have HA3:Hid (KSL u2 w.heap.size kk kn K):=ksl_low2 hk HS0.1.2.2.size
   clear hK hr1
   clear hB HT hk
   refine zqr 6 rfl (fun K1 hK=>?_)
   refine if_wanted (wanted_none rfl) ?_
   simp only [zga,zgb,zgc]
   go_simp
   refine hK.out _ _ (HS2.called (bstart u2 (.cells #[.int .i64 0,.int .i64 0,.int .i64 0,.int .i64 0,.bool false,.slice none 0 0,.slice none 0 0,.int .i64 0,.int .i64 0,.int .i64 0,.int .i64 0,.slice none 0 0,.slice none 0 0] 37))) (fun HS3=>?_)
   clear hK
   have HX:Hid (TK w #[.int .i64 hw,.int .i64 hh,.int .i64 8,.int .i64 6,.bool lace,.slice ta tn tc,.slice ca cn cc,.int .i64 rw',.int .i64 rh,.int .i64 rc,.int .i64 rd,.slice sa sn sc,.slice ka kn kc] w3 u2.heap.size #[.int .i64 0,.int .i64 0,.int .i64 0,.int .i64 0,.bool false,.slice none 0 0,.slice none 0 0,.int .i64 0,.int .i64 0,.int .i64 0,.int .i64 0,.slice none 0 0,.slice none 0 0] kk kn K (u2.alloc (.cells #[.int .i64 0,.int .i64 0,.int .i64 0,.int .i64 0,.bool false,.slice none 0 0,.slice none 0 0,.int .i64 0,.int .i64 0,.int .i64 0,.int .i64 0,.slice none 0 0,.slice none 0 0] 37))):=⟨⟨HS3.1,heap_alloc_new u2 _,HA3.out.called (bstart u2 _),HS2.1.cells.2.2⟩,HS3.2,HS2.2.size⟩
   generalize u2.alloc (.cells #[.int .i64 0,.int .i64 0,.int .i64 0,.int .i64 0,.bool false,.slice none 0 0,.slice none 0 0,.int .i64 0,.int .i64 0,.int .i64 0,.int .i64 0,.slice none 0 0,.slice none 0 0] 37)=u3 at HX HS3 ⊢
   clear HA3 HS2 HS3
   obtain⟨x0,x1,x2,x3,x4,x5,x6,x7,x8,x9,x10,x11,x12⟩:=zqc HX.out.k.x
   have xf:∀ k,u3.frozen? ⟨u2.heap.size,k,none⟩=false:=unfrozen_of_block HX.out.k.x
   have xl:=block_lt HX.out.k.x
   have H4:=hid_of ((((((((((((((HX.out.set 0 (.int .i64 hw)).set 1 (.int .i64 hh)).set 2 (.int .i64 ((tblD (meaN p0):Nat):Int))).set 3 (.int .i64 3)).set 4 (.bool lace)).set 5 (.slice none 0 0)).set 6 (.slice none 0 0)).set 7 (.int .i64 hw)).set 8 (.int .i64 hh)).set 9 (.int .i64 3)).set 10 (.int .i64 ((tblD (meaN p0):Nat):Int))).set 11 (.slice pa (pixN p0) pc)).set 12 (.slice kk kn kc1)))
   simp only [zsa,zsb,zsc] at H4
   refine zqr 7 rfl (fun K1 hK=>?_)
   refine if_wanted (wanted_none rfl) ?_
   simp only [zga,zgb,zgc]
   go_simp
   refine hK.out _ _ ⟨H4.out.k.m,H4.out.b⟩ (fun HS4=>?_)
   clear hK
   refine wpAnyH_done (by kernel_rfl) ?_ _
   clear HS4 HX xf xl HS0 x0 x1 x2 x3 x4 x5 x6 x7 x8 x9 x10 x11 x12
   generalize (((((((((((((u3.setCell ⟨u2.heap.size,0,none⟩ (.int .i64 hw)).setCell ⟨u2.heap.size,1,none⟩ (.int .i64 hh)).setCell ⟨u2.heap.size,2,none⟩ (.int .i64 ((tblD (meaN p0):Nat):Int))).setCell ⟨u2.heap.size,3,none⟩ (.int .i64 3)).setCell ⟨u2.heap.size,4,none⟩ (.bool lace)).setCell ⟨u2.heap.size,5,none⟩ (.slice none 0 0)).setCell ⟨u2.heap.size,6,none⟩ (.slice none 0 0)).setCell ⟨u2.heap.size,7,none⟩ (.int .i64 hw)).setCell ⟨u2.heap.size,8,none⟩ (.int .i64 hh)).setCell ⟨u2.heap.size,9,none⟩ (.int .i64 3)).setCell ⟨u2.heap.size,10,none⟩ (.int .i64 ((tblD (meaN p0):Nat):Int))).setCell ⟨u2.heap.size,11,none⟩ (.slice pa (pixN p0) pc)).setCell ⟨u2.heap.size,12,none⟩ (.slice kk kn kc1))=w4 at H4 ⊢
   generalize u2.heap.size=X at H4 ⊢
   go_wp2_with fail
   refine (tableOf_any la (meaN p0) lc (tblV p0) w4 (px_came_on HPX.out H4.out.b) hbig (fun j hj=>HQ.out j hj)).mono ?_
   rintro e w5 ⟨xa,xt,ya,yc,rfl,hT,hC,hB⟩
   rw[← HMM.out] at hC ⊢
   have hps:=HPL.out.called H4.out.b
   have H5:Hid (WX w #[.int .i64 hw,.int .i64 hh,.int .i64 8,.int .i64 6,.bool lace,.slice ta tn tc,.slice ca cn cc,.int .i64 rw',.int .i64 rh,.int .i64 rc,.int .i64 rd,.slice sa sn sc,.slice ka kn kc] X #[.int .i64 hw,.int .i64 hh,.int .i64 ((tblD (meaN p0):Nat):Int),.int .i64 3,.bool lace,.slice none 0 0,.slice none 0 0,.int .i64 hw,.int .i64 hh,.int .i64 3,.int .i64 ((tblD (meaN p0):Nat):Int),.slice pa (pixN p0) pc,.slice kk kn kc1] (tblP p0) ⟨xa,xt,ya,yc,pa,pc,kk,kc1⟩ w5):=⟨⟨H4.out.k.m.called hB,HMk.out _ _ _ _ _ _ _ _ _ (hT.low H4.out.k.m.2.2.size) (sl_low2 hC H4.out.k.m.2.2.size) (hps.called hB) (by rw [HE.out.1,HE.out.2.1]; exact H4.out.k.k.called hB) (sl_apart hps hC) HPC.out⟩,H4.out.k.x.called hB,H4.out.k.lt⟩
   clear hT hC hB hps H4 HMk HPX HPL HPC HQ HMM hn1 hn2 hbg hbg2
   obtain⟨x0,x1,x2,x3,x4,x5,x6,x7,x8,x9,x10,x11,x12⟩:=zqc H5.out.x
   have xf:∀ k,w5.frozen? ⟨X,k,none⟩=false:=unfrozen_of_block H5.out.x
   have xl:=block_lt H5.out.x
   have n0:¬ X=w.heap.size:=by have:=H5.out.lt; omega
   have n1:¬ X=w.heap.size+1:=by have:=H5.out.lt; omega
   have n2:¬ w.heap.size=X:=by have:=H5.out.lt; omega
   have n3:¬ w.heap.size+1=X:=by have:=H5.out.lt; omega
   obtain⟨⟨z0,z1,z2,z3,z4,z5,z6,z7,z8,z9,z10,z11,z12,y0,y1,y2,y3,y4,y5,y6,y7,y8,y9,y10,y11,y12⟩,yf,yl⟩:=H5.out.p.m.cells
   go_wp2_with fail
   refine bodyPost_ret (v:=.tuple #[.agg #[.int .i64 hw,.int .i64 hh,.int .i64 ((tblD (meaN p0):Nat):Int),.int .i64 3,.bool lace,.slice xa (meaN p0) xt,.slice ya M yc,.int .i64 hw,.int .i64 hh,.int .i64 3,.int .i64 ((tblD (meaN p0):Nat):Int),.slice pa (pixN p0) pc,.slice kk kn kc1],.bool true]) ?_ rfl (HY.out _ xa ya pa kk xt yc pc kc1 ?_ ?_)
   ·simp[results,Tryz.results18,go_sem, *]
   ·exact (((H5.out.set 5 _).set 6 _).p.stored _ _ _ _ _ _ _ _ _ _ _ _ _ ).1
   ·exact (((H5.out.set 5 _).set 6 _).p.stored _ _ _ _ _ _ _ _ _ _ _ _ _ ).2
  ·refine if_wanted (wanted_none rfl) ?_
   simp only [zga,zgb,zgc]
   go_simp
   refine hK.out _ _ (HS0.called (bstart u0 (.cells #[.int .i64 0,.int .i64 0,.int .i64 0,.int .i64 0,.bool false,.slice none 0 0,.slice none 0 0,.int .i64 0,.int .i64 0,.int .i64 0,.int .i64 0,.slice none 0 0,.slice none 0 0] 37))) (fun HS1=>?_)
   clear hK
   have hblk0:BoxAt (u0.alloc (.cells #[.int .i64 0,.int .i64 0,.int .i64 0,.int .i64 0,.bool false,.slice none 0 0,.slice none 0 0,.int .i64 0,.int .i64 0,.int .i64 0,.int .i64 0,.slice none 0 0,.slice none 0 0] 37)) u0.heap.size #[.int .i64 0,.int .i64 0,.int .i64 0,.int .i64 0,.bool false,.slice none 0 0,.slice none 0 0,.int .i64 0,.int .i64 0,.int .i64 0,.int .i64 0,.slice none 0 0,.slice none 0 0]:=heap_alloc_new u0 _
   have hX1:w.heap.size+1 < u0.heap.size:=HS0.1.cells.2.2
   have hX2:w3.heap.size≤u0.heap.size:=HS0.2.size
   generalize u0.alloc (.cells #[.int .i64 0,.int .i64 0,.int .i64 0,.int .i64 0,.bool false,.slice none 0 0,.slice none 0 0,.int .i64 0,.int .i64 0,.int .i64 0,.int .i64 0,.slice none 0 0,.slice none 0 0] 37)=u1 at HS1 hblk0 ⊢
   refine zqr 5 rfl (fun K1 hK=>?_)
   refine if_wanted (wanted_none rfl) ?_
   simp only [zga,zgb,zgc]
   go_simp
   refine (hr1 _ pa (pixN p0) pc _ (HP.out.called HS1.1.2.2)).mono ?_
   rintro e u2 ⟨kk,kc1,he,hk,hB⟩
   simp only [HE.out.1,HE.out.2.1,HE.out.2.2.1,HE.out.2.2.2.1,HE.out.2.2.2.2] at he hk
   subst he
   have HT:=HS1.called hB
   refine hK.out _ _ HT (fun HS2=>?_)
   have HA3:Hid (KSL u2 w.heap.size kk kn K):=ksl_low2 hk HS1.1.2.2.size
   clear hK hr1
   have HX:Hid (TK w #[.int .i64 hw,.int .i64 hh,.int .i64 8,.int .i64 6,.bool lace,.slice ta tn tc,.slice ca cn cc,.int .i64 rw',.int .i64 rh,.int .i64 rc,.int .i64 rd,.slice sa sn sc,.slice ka kn kc] w3 u0.heap.size #[.int .i64 0,.int .i64 0,.int .i64 0,.int .i64 0,.bool false,.slice none 0 0,.slice none 0 0,.int .i64 0,.int .i64 0,.int .i64 0,.int .i64 0,.slice none 0 0,.slice none 0 0] kk kn K u2):=⟨⟨HS2.1,hblk0.called hB,HA3.out,hX1⟩,HS2.2,hX2⟩
   clear hB HT hk hblk0 HS1 hX1 hX2 HA3 HS2
   obtain⟨x0,x1,x2,x3,x4,x5,x6,x7,x8,x9,x10,x11,x12⟩:=zqc HX.out.k.x
   have xf:∀ k,u2.frozen? ⟨u0.heap.size,k,none⟩=false:=unfrozen_of_block HX.out.k.x
   have xl:=block_lt HX.out.k.x
   have H4:=hid_of ((((((((((((((HX.out.set 0 (.int .i64 hw)).set 1 (.int .i64 hh)).set 2 (.int .i64 ((tblD (meaN p0):Nat):Int))).set 3 (.int .i64 3)).set 4 (.bool lace)).set 5 (.slice none 0 0)).set 6 (.slice none 0 0)).set 7 (.int .i64 hw)).set 8 (.int .i64 hh)).set 9 (.int .i64 3)).set 10 (.int .i64 ((tblD (meaN p0):Nat):Int))).set 11 (.slice pa (pixN p0) pc)).set 12 (.slice kk kn kc1)))
   simp only [zsa,zsb,zsc] at H4
   refine zqr 7 rfl (fun K1 hK=>?_)
   refine if_wanted (wanted_none rfl) ?_
   simp only [zga,zgb,zgc]
   go_simp
   refine hK.out _ _ ⟨H4.out.k.m,H4.out.b⟩ (fun HS4=>?_)
   clear hK
   refine wpAnyH_done (by kernel_rfl) ?_ _
   clear HS4 HX xf xl HS0 x0 x1 x2 x3 x4 x5 x6 x7 x8 x9 x10 x11 x12
   generalize (((((((((((((u2.setCell ⟨u0.heap.size,0,none⟩ (.int .i64 hw)).setCell ⟨u0.heap.size,1,none⟩ (.int .i64 hh)).setCell ⟨u0.heap.size,2,none⟩ (.int .i64 ((tblD (meaN p0):Nat):Int))).setCell ⟨u0.heap.size,3,none⟩ (.int .i64 3)).setCell ⟨u0.heap.size,4,none⟩ (.bool lace)).setCell ⟨u0.heap.size,5,none⟩ (.slice none 0 0)).setCell ⟨u0.heap.size,6,none⟩ (.slice none 0 0)).setCell ⟨u0.heap.size,7,none⟩ (.int .i64 hw)).setCell ⟨u0.heap.size,8,none⟩ (.int .i64 hh)).setCell ⟨u0.heap.size,9,none⟩ (.int .i64 3)).setCell ⟨u0.heap.size,10,none⟩ (.int .i64 ((tblD (meaN p0):Nat):Int))).setCell ⟨u0.heap.size,11,none⟩ (.slice pa (pixN p0) pc)).setCell ⟨u0.heap.size,12,none⟩ (.slice kk kn kc1))=w4 at H4 ⊢
   generalize u0.heap.size=X at H4 ⊢
   go_wp2_with fail
   refine (tableOf_any la (meaN p0) lc (tblV p0) w4 (px_came_on HPX.out H4.out.b) hbig (fun j hj=>HQ.out j hj)).mono ?_
   rintro e w5 ⟨xa,xt,ya,yc,rfl,hT,hC,hB⟩
   rw[← HMM.out] at hC ⊢
   have hps:=HPL.out.called H4.out.b
   have H5:Hid (WX w #[.int .i64 hw,.int .i64 hh,.int .i64 8,.int .i64 6,.bool lace,.slice ta tn tc,.slice ca cn cc,.int .i64 rw',.int .i64 rh,.int .i64 rc,.int .i64 rd,.slice sa sn sc,.slice ka kn kc] X #[.int .i64 hw,.int .i64 hh,.int .i64 ((tblD (meaN p0):Nat):Int),.int .i64 3,.bool lace,.slice none 0 0,.slice none 0 0,.int .i64 hw,.int .i64 hh,.int .i64 3,.int .i64 ((tblD (meaN p0):Nat):Int),.slice pa (pixN p0) pc,.slice kk kn kc1] (tblP p0) ⟨xa,xt,ya,yc,pa,pc,kk,kc1⟩ w5):=⟨⟨H4.out.k.m.called hB,HMk.out _ _ _ _ _ _ _ _ _ (hT.low H4.out.k.m.2.2.size) (sl_low2 hC H4.out.k.m.2.2.size) (hps.called hB) (by rw [HE.out.1,HE.out.2.1]; exact H4.out.k.k.called hB) (sl_apart hps hC) HPC.out⟩,H4.out.k.x.called hB,H4.out.k.lt⟩
   clear hT hC hB hps H4 HMk HPX HPL HPC HQ HMM hn1 hn2 hbg hbg2
   obtain⟨x0,x1,x2,x3,x4,x5,x6,x7,x8,x9,x10,x11,x12⟩:=zqc H5.out.x
   have xf:∀ k,w5.frozen? ⟨X,k,none⟩=false:=unfrozen_of_block H5.out.x
   have xl:=block_lt H5.out.x
   have n0:¬ X=w.heap.size:=by have:=H5.out.lt; omega
   have n1:¬ X=w.heap.size+1:=by have:=H5.out.lt; omega
   have n2:¬ w.heap.size=X:=by have:=H5.out.lt; omega
   have n3:¬ w.heap.size+1=X:=by have:=H5.out.lt; omega
   obtain⟨⟨z0,z1,z2,z3,z4,z5,z6,z7,z8,z9,z10,z11,z12,y0,y1,y2,y3,y4,y5,y6,y7,y8,y9,y10,y11,y12⟩,yf,yl⟩:=H5.out.p.m.cells
   go_wp2_with fail
   refine bodyPost_ret (v:=.tuple #[.agg #[.int .i64 hw,.int .i64 hh,.int .i64 ((tblD (meaN p0):Nat):Int),.int .i64 3,.bool lace,.slice xa (meaN p0) xt,.slice ya M yc,.int .i64 hw,.int .i64 hh,.int .i64 3,.int .i64 ((tblD (meaN p0):Nat):Int),.slice pa (pixN p0) pc,.slice kk kn kc1],.bool true]) ?_ rfl (HY.out _ xa ya pa kk xt yc pc kc1 ?_ ?_)
   ·simp[results,Tryz.results18,go_sem, *]
   ·exact (((H5.out.set 5 _).set 6 _).p.stored _ _ _ _ _ _ _ _ _ _ _ _ _ ).1
   ·exact (((H5.out.set 5 _).set 6 _).p.stored _ _ _ _ _ _ _ _ _ _ _ _ _ ).2
 ·refine if_wanted (wanted_none rfl) ?_
  simp only [zga,zgb,zgc]
  go_simp
  refine hK.out _ _ (HS0.called (bstart u0 (.cells #[.int .i64 0,.int .i64 0,.int .i64 0,.int .i64 0,.bool false,.slice none 0 0,.slice none 0 0,.int .i64 0,.int .i64 0,.int .i64 0,.int .i64 0,.slice none 0 0,.slice none 0 0] 37))) (fun HS1=>?_)
  clear hK
  have hblk0:BoxAt (u0.alloc (.cells #[.int .i64 0,.int .i64 0,.int .i64 0,.int .i64 0,.bool false,.slice none 0 0,.slice none 0 0,.int .i64 0,.int .i64 0,.int .i64 0,.int .i64 0,.slice none 0 0,.slice none 0 0] 37)) u0.heap.size #[.int .i64 0,.int .i64 0,.int .i64 0,.int .i64 0,.bool false,.slice none 0 0,.slice none 0 0,.int .i64 0,.int .i64 0,.int .i64 0,.int .i64 0,.slice none 0 0,.slice none 0 0]:=heap_alloc_new u0 _
  have hX1:w.heap.size+1 < u0.heap.size:=HS0.1.cells.2.2
  have hX2:w3.heap.size≤u0.heap.size:=HS0.2.size
  generalize u0.alloc (.cells #[.int .i64 0,.int .i64 0,.int .i64 0,.int .i64 0,.bool false,.slice none 0 0,.slice none 0 0,.int .i64 0,.int .i64 0,.int .i64 0,.int .i64 0,.slice none 0 0,.slice none 0 0] 37)=u1 at HS1 hblk0 ⊢
  refine zqr 3 rfl (fun K1 hK=>?_)
  refine if_wanted (wanted_none rfl) ?_
  simp only [zga,zgb,zgc]
  go_simp
  refine (hde u1).mono ?_
  rintro e u1 ⟨rfl,rfl⟩
  refine hK.out _ _ HS1 (fun _=>?_)
  clear hK
  refine zqr 5 rfl (fun K1 hK=>?_)
  refine if_wanted (wanted_none rfl) ?_
  simp only [zga,zgb,zgc]
  go_simp
  refine (hr1 _ pa (pixN p0) pc _ (HP.out.called HS1.1.2.2)).mono ?_
  rintro e u2 ⟨kk,kc1,he,hk,hB⟩
  simp only [HE.out.1,HE.out.2.1,HE.out.2.2.1,HE.out.2.2.2.1,HE.out.2.2.2.2] at he hk
  subst he
  have HT:=HS1.called hB
  refine hK.out _ _ HT (fun HS2=>?_)
  have HA3:Hid (KSL u2 w.heap.size kk kn K):=ksl_low2 hk HS1.1.2.2.size
  clear hK hr1
  have HX:Hid (TK w #[.int .i64 hw,.int .i64 hh,.int .i64 8,.int .i64 6,.bool lace,.slice ta tn tc,.slice ca cn cc,.int .i64 rw',.int .i64 rh,.int .i64 rc,.int .i64 rd,.slice sa sn sc,.slice ka kn kc] w3 u0.heap.size #[.int .i64 0,.int .i64 0,.int .i64 0,.int .i64 0,.bool false,.slice none 0 0,.slice none 0 0,.int .i64 0,.int .i64 0,.int .i64 0,.int .i64 0,.slice none 0 0,.slice none 0 0] kk kn K u2):=⟨⟨HS2.1,hblk0.called hB,HA3.out,hX1⟩,HS2.2,hX2⟩
  clear hB HT hk hblk0 HS1 hX1 hX2 HA3 HS2
  obtain⟨x0,x1,x2,x3,x4,x5,x6,x7,x8,x9,x10,x11,x12⟩:=zqc HX.out.k.x
  have xf:∀ k,u2.frozen? ⟨u0.heap.size,k,none⟩=false:=unfrozen_of_block HX.out.k.x
  have xl:=block_lt HX.out.k.x
  have H4:=hid_of ((((((((((((((HX.out.set 0 (.int .i64 hw)).set 1 (.int .i64 hh)).set 2 (.int .i64 ((tblD (meaN p0):Nat):Int))).set 3 (.int .i64 3)).set 4 (.bool lace)).set 5 (.slice none 0 0)).set 6 (.slice none 0 0)).set 7 (.int .i64 hw)).set 8 (.int .i64 hh)).set 9 (.int .i64 3)).set 10 (.int .i64 ((tblD (meaN p0):Nat):Int))).set 11 (.slice pa (pixN p0) pc)).set 12 (.slice kk kn kc1)))
  simp only [zsa,zsb,zsc] at H4
  refine zqr 7 rfl (fun K1 hK=>?_)
  refine if_wanted (wanted_none rfl) ?_
  simp only [zga,zgb,zgc]
  go_simp
  refine hK.out _ _ ⟨H4.out.k.m,H4.out.b⟩ (fun HS4=>?_)
  clear hK
  refine wpAnyH_done (by kernel_rfl) ?_ _
  clear HS4 HX xf xl HS0 x0 x1 x2 x3 x4 x5 x6 x7 x8 x9 x10 x11 x12
  generalize (((((((((((((u2.setCell ⟨u0.heap.size,0,none⟩ (.int .i64 hw)).setCell ⟨u0.heap.size,1,none⟩ (.int .i64 hh)).setCell ⟨u0.heap.size,2,none⟩ (.int .i64 ((tblD (meaN p0):Nat):Int))).setCell ⟨u0.heap.size,3,none⟩ (.int .i64 3)).setCell ⟨u0.heap.size,4,none⟩ (.bool lace)).setCell ⟨u0.heap.size,5,none⟩ (.slice none 0 0)).setCell ⟨u0.heap.size,6,none⟩ (.slice none 0 0)).setCell ⟨u0.heap.size,7,none⟩ (.int .i64 hw)).setCell ⟨u0.heap.size,8,none⟩ (.int .i64 hh)).setCell ⟨u0.heap.size,9,none⟩ (.int .i64 3)).setCell ⟨u0.heap.size,10,none⟩ (.int .i64 ((tblD (meaN p0):Nat):Int))).setCell ⟨u0.heap.size,11,none⟩ (.slice pa (pixN p0) pc)).setCell ⟨u0.heap.size,12,none⟩ (.slice kk kn kc1))=w4 at H4 ⊢
  generalize u0.heap.size=X at H4 ⊢
  go_wp2_with fail
  refine (tableOf_any la (meaN p0) lc (tblV p0) w4 (px_came_on HPX.out H4.out.b) hbig (fun j hj=>HQ.out j hj)).mono ?_
  rintro e w5 ⟨xa,xt,ya,yc,rfl,hT,hC,hB⟩
  rw[← HMM.out] at hC ⊢
  have hps:=HPL.out.called H4.out.b
  have H5:Hid (WX w #[.int .i64 hw,.int .i64 hh,.int .i64 8,.int .i64 6,.bool lace,.slice ta tn tc,.slice ca cn cc,.int .i64 rw',.int .i64 rh,.int .i64 rc,.int .i64 rd,.slice sa sn sc,.slice ka kn kc] X #[.int .i64 hw,.int .i64 hh,.int .i64 ((tblD (meaN p0):Nat):Int),.int .i64 3,.bool lace,.slice none 0 0,.slice none 0 0,.int .i64 hw,.int .i64 hh,.int .i64 3,.int .i64 ((tblD (meaN p0):Nat):Int),.slice pa (pixN p0) pc,.slice kk kn kc1] (tblP p0) ⟨xa,xt,ya,yc,pa,pc,kk,kc1⟩ w5):=⟨⟨H4.out.k.m.called hB,HMk.out _ _ _ _ _ _ _ _ _ (hT.low H4.out.k.m.2.2.size) (sl_low2 hC H4.out.k.m.2.2.size) (hps.called hB) (by rw [HE.out.1,HE.out.2.1]; exact H4.out.k.k.called hB) (sl_apart hps hC) HPC.out⟩,H4.out.k.x.called hB,H4.out.k.lt⟩
  clear hT hC hB hps H4 HMk HPX HPL HPC HQ HMM hn1 hn2 hbg hbg2
  obtain⟨x0,x1,x2,x3,x4,x5,x6,x7,x8,x9,x10,x11,x12⟩:=zqc H5.out.x
  have xf:∀ k,w5.frozen? ⟨X,k,none⟩=false:=unfrozen_of_block H5.out.x
  have xl:=block_lt H5.out.x
  have n0:¬ X=w.heap.size:=by have:=H5.out.lt; omega
  have n1:¬ X=w.heap.size+1:=by have:=H5.out.lt; omega
  have n2:¬ w.heap.size=X:=by have:=H5.out.lt; omega
  have n3:¬ w.heap.size+1=X:=by have:=H5.out.lt; omega
  obtain⟨⟨z0,z1,z2,z3,z4,z5,z6,z7,z8,z9,z10,z11,z12,y0,y1,y2,y3,y4,y5,y6,y7,y8,y9,y10,y11,y12⟩,yf,yl⟩:=H5.out.p.m.cells
  go_wp2_with fail
  refine bodyPost_ret (v:=.tuple #[.agg #[.int .i64 hw,.int .i64 hh,.int .i64 ((tblD (meaN p0):Nat):Int),.int .i64 3,.bool lace,.slice xa (meaN p0) xt,.slice ya M yc,.int .i64 hw,.int .i64 hh,.int .i64 3,.int .i64 ((tblD (meaN p0):Nat):Int),.slice pa (pixN p0) pc,.slice kk kn kc1],.bool true]) ?_ rfl (HY.out _ xa ya pa kk xt yc pc kc1 ?_ ?_)
  ·simp[results,Tryz.results18,go_sem, *]
  ·exact (((H5.out.set 5 _).set 6 _).p.stored _ _ _ _ _ _ _ _ _ _ _ _ _ ).1
  ·exact (((H5.out.set 5 _).set 6 _).p.stored _ _ _ _ _ _ _ _ _ _ _ _ _ ).2
end Go.Proofs.YtkpbfmdnjnohlaaGreat
