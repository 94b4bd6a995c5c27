/-
  Texts of the proof, put together.
-/
import Derived.Test.YtkpbfmdnjnohlaaGreatRd14
import Derived.Test.YtkpbfmdnjnohlaaGreatRd18
namespace Go.Proofs.YtkpbfmdnjnohlaaGreat
open Go.RowKit Go.Joins OutMath PutMath RastMath HeadMath ChunkMath
set_option maxRecDepth 100000 in
set_option maxHeartbeats 6400000 in
theorem specLessDepth (p:Pic) (q:PicA) (w:World) (hP:PngIn w p q) (hZ:PngSz p):
  Calls Tryz.prog 85 #[pngV p q] w (LessPost ((MayR p∧p.hd=16)∧HalfR p (257:Nat)) (halfP p 8 (257:Nat)) w):=by
 have hok:=fun W h=>specPngOk p q W h hZ
 have hto:=fun W (h:PngIn W p q)=>specTouchy p q W h.k hZ.k
 have HNo:Hid (¬ ((MayR p∧p.hd=16)∧HalfR p (257:Nat))→∀ W,Below w.heap.size w W→LessPost ((MayR p∧p.hd=16)∧HalfR p (257:Nat)) (halfP p 8 (257:Nat)) w (.returned (.tuple #[.agg #[.int .i64 0,.int .i64 0,.int .i64 0,.int .i64 0,.bool false,.slice none 0 0,.slice none 0 0,.int .i64 0,.int .i64 0,.int .i64 0,.int .i64 0,.slice none 0 0,.slice none 0 0],.bool false])) W):=fun h W b=>.inl ⟨h,rfl,b⟩
 have HYes:Hid ((((MayR p∧p.hd=16)∧HalfR p (257:Nat)))→∀ (W:World) (sa' ca' ka':Option Addr) (sc' cc' kc':Nat),PngSL W w.heap.size (halfP p 8 (257:Nat)) ⟨none,0,ca',cc',sa',sc',ka',kc'⟩→Below w.heap.size w W→LessPost ((MayR p∧p.hd=16)∧HalfR p (257:Nat)) (halfP p 8 (257:Nat)) w (.returned (.tuple #[.agg #[.int .i64 p.hw,.int .i64 p.hh,.int .i64 8,.int .i64 p.hc,.bool p.lace,.slice none 0 0,.slice ca' p.cn cc',.int .i64 p.hw,.int .i64 p.hh,.int .i64 p.hc,.int .i64 8,.slice sa' p.sn sc',.slice ka' p.kn kc'],.bool true])) W):=fun h W sa' ca' ka' sc' cc' kc' h1 h6=>.inr ⟨h,⟨none,0,ca',cc',sa',sc',ka',kc'⟩,rfl,h1,h6⟩
 have HMk:Hid (∀ (W:World) (sa' ca' ka':Option Addr) (sc' cc' kc':Nat),SL W w.heap.size sa' p.sn sc' (fun j=>p.S j / (257:Nat))→SL W w.heap.size ca' p.cn cc' (fun j=>p.C j / (257:Nat))→KSL W w.heap.size ka' p.kn p.K→(p.cn=0∨p.sn=0∨ca'≠sa')→p.sn≤sc'∧sc'≤maxLen→PngSL W w.heap.size (halfP p 8 (257:Nat)) ⟨none,0,ca',cc',sa',sc',ka',kc'⟩):=fun W sa' ca' ka' sc' cc' kc' h1 h2 h3 h4 h5=>⟨.inl rfl,h2,h1,h3,h4,h5⟩
 have HIff:Hid (HalfR p (257:Nat)↔(∀ i,i < p.sn→p.S i % (257:Nat)=0)∧∀ i,i < p.cn→p.C i % (257:Nat)=0):=Iff.rfl
 have HTo:Hid (MayR p↔PngR p∧¬ TouchyR p.kn p.K):=Iff.rfl
 have hs:=fun W (h:PngIn W p q) (hR:PngR p)=>specDivided q.sa p.sn q.sc p.S 257 W h.s (by have:=(png_fits hR).1; omega) (png_fits hR).2.1 (by omega)
 have hc:=fun W (h:PngIn W p q) (hR:PngR p)=>specDivided q.ca p.cn q.cc p.C 257 W h.c (by have:=(png_fits hR).2.2.1; omega) (png_fits hR).2.2.2.1 (by omega)
 have hr:=fun ya yc xa xc W (h:PngIn W p q) (hR:PngR p)=>specWith p q p.hc 8 ya p.sn yc xa p.cn xc W h.k (by have:=(png_fits hR).2.2.2.2; omega)
 have HP:=hid_of hP
 clear hP hZ
 obtain⟨p0,hp0⟩:∃ p0,p0=p:=⟨_,rfl⟩
 obtain⟨hw,hh,hd,hc',lace,tn,T,cn,C,rw',rh,rc,rd,sn,S,kn,K⟩:=p
 obtain⟨ta,tc,ca,cc,sa,sc,ka,kc⟩:=q
 simp only [pngV] at hok hto hs hc hr HYes HMk HIff HTo HNo ⊢
 have HE:Hid (p0.kn=kn∧p0.K=K∧p0.hw=hw∧p0.hh=hh∧p0.lace=lace∧p0.hd=hd):=by rw [hp0]; exact⟨rfl,rfl,rfl,rfl,rfl,rfl⟩
 rw[← hp0] at hok hto hs hc hr HP HYes HMk HNo HIff HTo ⊢
 clear hp0
 have H0:Hid (MoP w #[.int .i64 hw,.int .i64 hh,.int .i64 hd,.int .i64 hc',.bool lace,.slice ta tn tc,.slice ca cn cc,.int .i64 rw',.int .i64 rh,.int .i64 rc,.int .i64 rd,.slice sa sn sc,.slice ka kn kc] ((w.alloc (.cells #[.int .i64 hw,.int .i64 hh,.int .i64 hd,.int .i64 hc',.bool lace,.slice ta tn tc,.slice ca cn cc,.int .i64 rw',.int .i64 rh,.int .i64 rc,.int .i64 rd,.slice sa sn sc,.slice ka kn kc] 37)).alloc (.cells #[.int .i64 0,.int .i64 0,.int .i64 0,.int .i64 0,.bool false,.slice none 0 0,.slice none 0 0,.int .i64 0,.int .i64 0,.int .i64 0,.int .i64 0,.slice none 0 0,.slice none 0 0] 37))):=MoP.start w _ _ rfl
 go_enter Tryz.func85,Tryz.ntmps85
 go_wp2_with fail
 refine (hok _ (HP.out.called H0.out.2.2)).mono ?_
 rintro e w1 ⟨b,rfl,hb,hB⟩
 have H1:=hid_of (H0.out.called hB)
 have HB:=hid_of hb
 clear hB hb H0 hok
 cases b
 ·have HN:=hid_of (HNo.out fun h=>by have:=HB.out.mpr (HTo.out.mp h.1.1).1; cases this)
  obtain⟨⟨z0,z1,z2,z3,z4,z5,z6,z7,z8,z9,z10,z11,z12,y0,y1,y2,y3,y4,y5,y6,y7,y8,y9,y10,y11,y12⟩,yf,yl⟩:=H1.out.cells
  clear HYes HMk hr hc hs 
  go_wp2_with fail
  refine bodyPost_ret (v:=.tuple #[.agg #[.int .i64 0,.int .i64 0,.int .i64 0,.int .i64 0,.bool false,.slice none 0 0,.slice none 0 0,.int .i64 0,.int .i64 0,.int .i64 0,.int .i64 0,.slice none 0 0,.slice none 0 0],.bool false]) ?_ rfl (HN.out _ ?_)
  ·simp[results,Tryz.results85,go_sem, *]
  ·exact H1.out.stored _ _ _ _ _ _ _ _ _ _ _ _ _
 have HR:=hid_of (HB.out.mp rfl)
 clear HB
 have la:=block_lt H1.out.1
 obtain⟨a0,a1,a2,a3,a4,a5,a6,a7,a8,a9,a10,a11,a12⟩:=zqc H1.out.1
 go_wp2_with fail
 clear la a0 a1 a2 a3 a4 a5 a6 a7 a8 a9 a10 a11 a12
 refine (hto _ (HP.out.called H1.out.2.2)).mono ?_
 rintro e w2 ⟨t,rfl,ht,hB⟩
 have H2:=hid_of (H1.out.called hB)
 have HT:=hid_of ht
 clear hB ht H1 hto
 cases t
 rotate_left
 ·have HN:=hid_of (HNo.out fun h=>by exact (HTo.out.mp h.1.1).2 (HT.out.mp rfl))
  obtain⟨⟨z0,z1,z2,z3,z4,z5,z6,z7,z8,z9,z10,z11,z12,y0,y1,y2,y3,y4,y5,y6,y7,y8,y9,y10,y11,y12⟩,yf,yl⟩:=H2.out.cells
  clear HYes HMk hr hc hs 
  go_wp2_with fail
  refine bodyPost_ret (v:=.tuple #[.agg #[.int .i64 0,.int .i64 0,.int .i64 0,.int .i64 0,.bool false,.slice none 0 0,.slice none 0 0,.int .i64 0,.int .i64 0,.int .i64 0,.int .i64 0,.slice none 0 0,.slice none 0 0],.bool false]) ?_ rfl (HN.out _ ?_)
  ·simp[results,Tryz.results85,go_sem, *]
  ·exact H2.out.stored _ _ _ _ _ _ _ _ _ _ _ _ _
 have HM:Hid (MayR p0):=HTo.out.mpr ⟨HR.out,fun h=>by have:=HT.out.mpr h; cases this⟩
 clear HTo HT
 have hs1:=fun W h=>hs W h HR.out
 have hc1:=fun W h=>hc W h HR.out
 have hr1:=fun ya yc xa xc W h=>hr ya yc xa xc W h HR.out
 clear hs hc hr
 by_cases e16:hd=16
 rotate_left
 ·have n16:(hd != 16)=true:=by simpa using e16
  have HN:=hid_of (HNo.out fun h=>e16 h.1.2)
  obtain⟨⟨z0,z1,z2,z3,z4,z5,z6,z7,z8,z9,z10,z11,z12,y0,y1,y2,y3,y4,y5,y6,y7,y8,y9,y10,y11,y12⟩,yf,yl⟩:=H2.out.cells
  have la:=block_lt H2.out.1
  obtain⟨a0,a1,a2,a3,a4,a5,a6,a7,a8,a9,a10,a11,a12⟩:=zqc H2.out.1
  clear e16 HYes HMk hr1 hc1 hs1
  go_wp2_with fail
  refine bodyPost_ret (v:=.tuple #[.agg #[.int .i64 0,.int .i64 0,.int .i64 0,.int .i64 0,.bool false,.slice none 0 0,.slice none 0 0,.int .i64 0,.int .i64 0,.int .i64 0,.int .i64 0,.slice none 0 0,.slice none 0 0],.bool false]) ?_ rfl (HN.out _ ?_)
  ·simp[results,Tryz.results85,go_sem, *]
  ·exact H2.out.stored _ _ _ _ _ _ _ _ _ _ _ _ _
 subst e16
 have la:=block_lt H2.out.1
 obtain⟨a0,a1,a2,a3,a4,a5,a6,a7,a8,a9,a10,a11,a12⟩:=zqc H2.out.1
 go_wp2_with fail
 clear la a0 a1 a2 a3 a4 a5 a6 a7 a8 a9 a10 a11 a12
 refine (hs1 _ (HP.out.called H2.out.2.2)).mono ?_
 rintro e w3 ⟨ok1,sa1,m1,sc1,rfl,hok1,hr1',hB⟩
 have H3:=hid_of (H2.out.called hB)
 have HR1:Hid (ok1=true→m1=sn∧SL w3 w.heap.size sa1 sn sc1 (fun j=>S j / (257:Nat))∧sn≤sc1∧sc1≤maxLen):=fun h=>⟨(hr1' h).1,sl_low2 (hr1' h).2.1 H2.out.2.2.size,(hr1' h).2.2⟩
 have HO1:=hid_of hok1
 clear hB H2 hok1 hr1' hs1
 have la:=block_lt H3.out.1
 obtain⟨a0,a1,a2,a3,a4,a5,a6,a7,a8,a9,a10,a11,a12⟩:=zqc H3.out.1
 go_wp2_with fail
 clear la a0 a1 a2 a3 a4 a5 a6 a7 a8 a9 a10 a11 a12
 refine (hc1 _ (HP.out.called H3.out.2.2)).mono ?_
 rintro e w4 ⟨ok2,ca1,m2,cc1,rfl,hok2,hr2,hB⟩
 have H4:=hid_of (H3.out.called hB)
 have HO2:=hid_of hok2
 have HR2:Hid (ok1=true→ok2=true→sn=m1∧cn=m2∧SL w4 w.heap.size sa1 sn sc1 (fun j=>S j / (257:Nat))∧SL w4 w.heap.size ca1 cn cc1 (fun j=>C j / (257:Nat))∧(cn=0∨sn=0∨ca1≠sa1)∧sn≤sc1∧sc1≤maxLen):=fun h1 h2=>⟨(HR1.out h1).1.symm,(hr2 h2).1.symm,(HR1.out h1).2.1.called hB,sl_low2 (hr2 h2).2.1 H3.out.2.2.size,sl_apart (HR1.out h1).2.1 (hr2 h2).2.1,(HR1.out h1).2.2⟩
 clear hB hok2 hr2 H3 HR1 hc1
 cases ok1
 ·have HN:=hid_of (HNo.out fun h=>by have:=HO1.out.mpr (HIff.out.mp h.2).1; cases this)
  obtain⟨⟨z0,z1,z2,z3,z4,z5,z6,z7,z8,z9,z10,z11,z12,y0,y1,y2,y3,y4,y5,y6,y7,y8,y9,y10,y11,y12⟩,yf,yl⟩:=H4.out.cells
  clear HR2 hr1 HYes HMk
  go_wp2_with fail
  refine bodyPost_ret (v:=.tuple #[.agg #[.int .i64 0,.int .i64 0,.int .i64 0,.int .i64 0,.bool false,.slice none 0 0,.slice none 0 0,.int .i64 0,.int .i64 0,.int .i64 0,.int .i64 0,.slice none 0 0,.slice none 0 0],.bool false]) ?_ rfl (HN.out _ ?_)
  ·simp[results,Tryz.results85,go_sem, *]
  ·exact H4.out.stored _ _ _ _ _ _ _ _ _ _ _ _ _
 cases ok2
 ·have HN:=hid_of (HNo.out fun h=>by have:=HO2.out.mpr (HIff.out.mp h.2).2; cases this)
  obtain⟨⟨z0,z1,z2,z3,z4,z5,z6,z7,z8,z9,z10,z11,z12,y0,y1,y2,y3,y4,y5,y6,y7,y8,y9,y10,y11,y12⟩,yf,yl⟩:=H4.out.cells
  clear HR2 hr1 HYes HMk
  go_wp2_with fail
  refine bodyPost_ret (v:=.tuple #[.agg #[.int .i64 0,.int .i64 0,.int .i64 0,.int .i64 0,.bool false,.slice none 0 0,.slice none 0 0,.int .i64 0,.int .i64 0,.int .i64 0,.int .i64 0,.slice none 0 0,.slice none 0 0],.bool false]) ?_ rfl (HN.out _ ?_)
  ·simp[results,Tryz.results85,go_sem, *]
  ·exact H4.out.stored _ _ _ _ _ _ _ _ _ _ _ _ _
 obtain⟨rfl,rfl,hs1,hc1,hne,hcap⟩:=HR2.out rfl rfl
 have HY:=hid_of (HYes.out ⟨⟨HM.out,by simp⟩,HIff.out.mpr ⟨HO1.out.mp rfl,HO2.out.mp rfl⟩⟩)
 have HS:=hid_of hs1
 have HC:=hid_of hc1
 have HNE:=hid_of hne
 have HCAP:=hid_of hcap
 clear hs1 hc1 hne hcap HR2 HYes HNo HIff HO1 HO2 HM
 have la:=block_lt H4.out.1
 obtain⟨a0,a1,a2,a3,a4,a5,a6,a7,a8,a9,a10,a11,a12⟩:=zqc H4.out.1
 go_wp2_with fail
 clear la a0 a1 a2 a3 a4 a5 a6 a7 a8 a9 a10 a11 a12
 refine (hr1 sa1 sc1 ca1 cc1 _ (HP.out.called H4.out.2.2)).mono ?_
 rintro e w5 ⟨kk,kc1,he,hk,hB⟩
 simp only [HE.out.1,HE.out.2.1,HE.out.2.2.1,HE.out.2.2.2.1,HE.out.2.2.2.2.1] at he hk
 subst he
 have H5:Hid (WP w #[.int .i64 hw,.int .i64 hh,.int .i64 16,.int .i64 hc',.bool lace,.slice ta tn tc,.slice ca cn cc,.int .i64 rw',.int .i64 rh,.int .i64 rc,.int .i64 rd,.slice sa sn sc,.slice ka kn kc] (halfP p0 8 (257:Nat)) ⟨none,0,ca1,cc1,sa1,sc1,kk,kc1⟩ w5):=⟨H4.out.called hB,HMk.out _ _ _ _ _ _ _ (HS.out.called hB) (HC.out.called hB) (ksl_low2 hk H4.out.2.2.size) HNE.out HCAP.out⟩
 clear hB hk H4 HS HC HNE HCAP HMk hr1
 obtain⟨⟨z0,z1,z2,z3,z4,z5,z6,z7,z8,z9,z10,z11,z12,y0,y1,y2,y3,y4,y5,y6,y7,y8,y9,y10,y11,y12⟩,yf,yl⟩:=H5.out.m.cells
 go_wp2_with fail
 refine bodyPost_ret (v:=.tuple #[.agg #[.int .i64 hw,.int .i64 hh,.int .i64 8,.int .i64 hc',.bool lace,.slice none 0 0,.slice ca1 cn cc1,.int .i64 hw,.int .i64 hh,.int .i64 hc',.int .i64 8,.slice sa1 sn sc1,.slice kk kn kc1],.bool true]) ?_ rfl (HY.out _ _ _ _ _ _ _ ?_ ?_)
 ·simp[results,Tryz.results85,go_sem, *]
 ·exact (H5.out.stored _ _ _ _ _ _ _ _ _ _ _ _ _).1
 ·exact (H5.out.stored _ _ _ _ _ _ _ _ _ _ _ _ _).2
end Go.Proofs.YtkpbfmdnjnohlaaGreat
