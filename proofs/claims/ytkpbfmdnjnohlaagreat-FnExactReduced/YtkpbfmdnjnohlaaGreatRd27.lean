/-
  Texts of the proof, put together.
-/
import Derived.Test.YtkpbfmdnjnohlaaGreatRd26
import Derived.Test.YtkpbfmdnjnohlaaGreatRd25
namespace Go.Proofs.YtkpbfmdnjnohlaaGreat
section
open Go.RowKit Go.Joins OutMath PutMath RastMath HeadMath ChunkMath
set_option maxRecDepth 100000 in
set_option maxHeartbeats 6400000 in
theorem implHalved (p:Pic) (q:PicA) (d b:Nat) (w:World) (hP:PngIn w p q) (hZ:PngSz p) (hR:PngR p) (hdd:p.hd=2 * (d:Int)) (h8:(d=1∧b=3)∨(d=2∧b=5)∨(d=4∧b=17)∨(d=8∧b=257)):
  Calls Tryz.prog 62 #[pngV p q] w (LessPost (HalfR p b) (halfP p d b) w):=by
 have hf:=png_fits hR
 have hb:1≤b∧b≤257:=by omega
 have e2:wrap64 ((2:Int) ^ d)=2 ^ d:=by rcases h8 with ⟨rfl,_⟩ | ⟨rfl,_⟩ | ⟨rfl,_⟩ | ⟨rfl,_⟩ <;> simp [wrap64]
 have e3:wrap64 ((2:Int) ^ d+1)=(b:Int):=by rcases h8 with ⟨rfl,rfl⟩ | ⟨rfl,rfl⟩ | ⟨rfl,rfl⟩ | ⟨rfl,rfl⟩ <;> simp [wrap64]
 have d64:d≤8:=by omega
 clear h8
 have HNo:Hid (¬ HalfR p b→∀ W,Below w.heap.size w W→LessPost (HalfR p b) (halfP p d b) w (.returned (.tuple #[.agg #[.int .i64 0,.int .i64 0,.int .i64 0,.int .i64 0,.bool false,.slice none 0 0,.slice none 0 0,.int .i64 0,.int .i64 0,.int .i64 0,.int .i64 0,.slice none 0 0,.slice none 0 0],.bool false])) W):=fun h W b=>.inl ⟨h,rfl,b⟩
 have HYes:Hid (HalfR p b→∀ (W:World) (sa' ca' ka':Option Addr) (sc' cc' kc':Nat),PngSL W w.heap.size (halfP p d b) ⟨none,0,ca',cc',sa',sc',ka',kc'⟩→Below w.heap.size w W→LessPost (HalfR p b) (halfP p d b) w (.returned (.tuple #[.agg #[.int .i64 p.hw,.int .i64 p.hh,.int .i64 d,.int .i64 p.hc,.bool p.lace,.slice none 0 0,.slice ca' p.cn cc',.int .i64 p.hw,.int .i64 p.hh,.int .i64 p.hc,.int .i64 d,.slice sa' p.sn sc',.slice ka' p.kn kc'],.bool true])) W):=fun h W sa' ca' ka' sc' cc' kc' h1 h6=>.inr ⟨h,⟨none,0,ca',cc',sa',sc',ka',kc'⟩,rfl,h1,h6⟩
 have HMk:Hid (∀ (W:World) (sa' ca' ka':Option Addr) (sc' cc' kc':Nat),SL W w.heap.size sa' p.sn sc' (fun j=>p.S j / b)→SL W w.heap.size ca' p.cn cc' (fun j=>p.C j / b)→KSL W w.heap.size ka' p.kn p.K→(p.cn=0∨p.sn=0∨ca'≠sa')→p.sn≤sc'∧sc'≤maxLen→PngSL W w.heap.size (halfP p d b) ⟨none,0,ca',cc',sa',sc',ka',kc'⟩):=fun W sa' ca' ka' sc' cc' kc' h1 h2 h3 h4 h5=>⟨.inl rfl,h2,h1,h3,h4,h5⟩
 have HIff:Hid (HalfR p b↔(∀ i,i < p.sn→p.S i % b=0)∧∀ i,i < p.cn→p.C i % b=0):=Iff.rfl
 have hs:=fun W (h:PngIn W p q)=>implDivided q.sa p.sn q.sc p.S b W h.s (by omega) hf.2.1 hb
 have hc:=fun W (h:PngIn W p q)=>implDivided q.ca p.cn q.cc p.C b W h.c (by omega) hf.2.2.2.1 hb
 have hr:=fun ya yc W (h:PngIn W p q)=>implRetold p q p.hc d ya p.sn yc W h.k (by omega) hZ.m
 have HP:=hid_of hP
 clear hP hZ hR hf hb
 obtain⟨p0,hp0⟩:∃ p0,p0=p:=⟨_,rfl⟩
 obtain⟨hw,hh,hd,hc',lace,tn,T,cn,C,rw',rh,rc,rd,sn,S,kn,K⟩:=p
 obtain⟨ta,tc,ca,cc,sa,sc,ka,kc⟩:=q
 simp only [pngV] at hs hc hr HYes HMk HIff ⊢
 have HE:Hid (p0.kn=kn∧p0.K=K∧p0.hw=hw∧p0.hh=hh∧p0.lace=lace):=by rw [hp0]; exact⟨rfl,rfl,rfl,rfl,rfl⟩
 rw[← hp0] at hs hc hr HP HYes HMk HNo HIff ⊢
 replace hdd:hd=2 * (d:Int):=hdd
 clear hp0
 subst hdd
 have H0:Hid (MoP w #[.int .i64 hw,.int .i64 hh,.int .i64 (2 * (d:Int)),.int .i64 hc',.bool lace,.slice ta tn tc,.slice ca cn cc,.int .i64 rw',.int .i64 rh,.int .i64 rc,.int .i64 rd,.slice sa sn sc,.slice ka kn kc] ((w.alloc (.cells #[.int .i64 hw,.int .i64 hh,.int .i64 (2 * (d:Int)),.int .i64 hc',.bool lace,.slice ta tn tc,.slice ca cn cc,.int .i64 rw',.int .i64 rh,.int .i64 rc,.int .i64 rd,.slice sa sn sc,.slice ka kn kc] 37)).alloc (.cells #[.int .i64 0,.int .i64 0,.int .i64 0,.int .i64 0,.bool false,.slice none 0 0,.slice none 0 0,.int .i64 0,.int .i64 0,.int .i64 0,.int .i64 0,.slice none 0 0,.slice none 0 0] 37))):=MoP.start w _ _ rfl
 go_enter Tryz.func62,Tryz.ntmps62
 go_wp2_with fail
 refine (hs _ (HP.out.called H0.out.2.2)).mono ?_
 rintro e w1 ⟨ok1,sa1,m1,sc1,rfl,hok1,hr1,hB⟩
 have H1:=hid_of (H0.out.called hB)
 have HR1:Hid (ok1=true→m1=sn∧SL w1 w.heap.size sa1 sn sc1 (fun j=>S j / b)∧sn≤sc1∧sc1≤maxLen):=fun h=>⟨(hr1 h).1,sl_low2 (hr1 h).2.1 H0.out.2.2.size,(hr1 h).2.2⟩
 have HO1:=hid_of hok1
 clear hB H0 hok1 hr1 e2 hs
 have la:=block_lt H1.out.1
 obtain⟨a0,a1,a2,a3,a4,a5,a6,a7,a8,a9,a10,a11,a12⟩:=zqc H1.out.1
 go_wp2_with fail
 clear la a0 a1 a2 a3 a4 a5 a6 a7 a8 a9 a10 a11 a12
 try rw [e3]
 refine (hc _ (HP.out.called H1.out.2.2)).mono ?_
 rintro e w2 ⟨ok2,ca1,m2,cc1,rfl,hok2,hr2,hB⟩
 have H2:=hid_of (H1.out.called hB)
 have HO2:=hid_of hok2
 have HR2:Hid (ok1=true→ok2=true→sn=m1∧cn=m2∧SL w2 w.heap.size sa1 sn sc1 (fun j=>S j / b)∧SL w2 w.heap.size ca1 cn cc1 (fun j=>C j / b)∧(cn=0∨sn=0∨ca1≠sa1)∧sn≤sc1∧sc1≤maxLen):=fun h1 h2=>⟨(HR1.out h1).1.symm,(hr2 h2).1.symm,(HR1.out h1).2.1.called hB,sl_low2 (hr2 h2).2.1 H1.out.2.2.size,sl_apart (HR1.out h1).2.1 (hr2 h2).2.1,(HR1.out h1).2.2⟩
 clear hB hok2 hr2 H1 HR1 hc
 cases ok1
 ·have HN:=hid_of (HNo.out fun h=>by have:=HO1.out.mpr (HIff.out.mp h).1; cases this)
  obtain⟨⟨z0,z1,z2,z3,z4,z5,z6,z7,z8,z9,z10,z11,z12,y0,y1,y2,y3,y4,y5,y6,y7,y8,y9,y10,y11,y12⟩,yf,yl⟩:=H2.out.cells
  clear HR2 hr HYes HMk
  go_wp2_with fail
  refine bodyPost_ret (v:=.tuple #[.agg #[.int .i64 0,.int .i64 0,.int .i64 0,.int .i64 0,.bool false,.slice none 0 0,.slice none 0 0,.int .i64 0,.int .i64 0,.int .i64 0,.int .i64 0,.slice none 0 0,.slice none 0 0],.bool false]) ?_ rfl (HN.out _ ?_)
  ·simp[results,Tryz.results62,go_sem, *]
  ·exact H2.out.stored _ _ _ _ _ _ _ _ _ _ _ _ _
 cases ok2
 ·have HN:=hid_of (HNo.out fun h=>by have:=HO2.out.mpr (HIff.out.mp h).2; cases this)
  obtain⟨⟨z0,z1,z2,z3,z4,z5,z6,z7,z8,z9,z10,z11,z12,y0,y1,y2,y3,y4,y5,y6,y7,y8,y9,y10,y11,y12⟩,yf,yl⟩:=H2.out.cells
  clear HR2 hr HYes HMk
  go_wp2_with fail
  refine bodyPost_ret (v:=.tuple #[.agg #[.int .i64 0,.int .i64 0,.int .i64 0,.int .i64 0,.bool false,.slice none 0 0,.slice none 0 0,.int .i64 0,.int .i64 0,.int .i64 0,.int .i64 0,.slice none 0 0,.slice none 0 0],.bool false]) ?_ rfl (HN.out _ ?_)
  ·simp[results,Tryz.results62,go_sem, *]
  ·exact H2.out.stored _ _ _ _ _ _ _ _ _ _ _ _ _
 obtain⟨rfl,rfl,hs1,hc1,hne,hcap⟩:=HR2.out rfl rfl
 have HY:=hid_of (HYes.out (HIff.out.mpr ⟨HO1.out.mp rfl,HO2.out.mp rfl⟩))
 have HS:=hid_of hs1
 have HC:=hid_of hc1
 have HNE:=hid_of hne
 have HCAP:=hid_of hcap
 clear hs1 hc1 hne hcap HR2 HYes HNo HIff HO1 HO2
 have la:=block_lt H2.out.1
 obtain⟨a0,a1,a2,a3,a4,a5,a6,a7,a8,a9,a10,a11,a12⟩:=zqc H2.out.1
 go_wp2_with fail
 clear la a0 a1 a2 a3 a4 a5 a6 a7 a8 a9 a10 a11 a12
 refine (hr sa1 sc1 _ (HP.out.called H2.out.2.2)).mono ?_
 rintro e w3 ⟨kk,kc1,he,hk,hB⟩
 simp only [HE.out.1,HE.out.2.1,HE.out.2.2.1,HE.out.2.2.2.1,HE.out.2.2.2.2] at he hk
 subst he
 have H3:Hid (WP w #[.int .i64 hw,.int .i64 hh,.int .i64 (2 * (d:Int)),.int .i64 hc',.bool lace,.slice ta tn tc,.slice ca cn cc,.int .i64 rw',.int .i64 rh,.int .i64 rc,.int .i64 rd,.slice sa sn sc,.slice ka kn kc] (halfP p0 d b) ⟨none,0,ca1,cc1,sa1,sc1,kk,kc1⟩ w3):=⟨H2.out.called hB,HMk.out _ _ _ _ _ _ _ (HS.out.called hB) (HC.out.called hB) (ksl_low2 hk H2.out.2.2.size) HNE.out HCAP.out⟩
 clear hB hk H2 HS HC HNE HCAP HMk hr
 obtain⟨⟨z0,z1,z2,z3,z4,z5,z6,z7,z8,z9,z10,z11,z12,y0,y1,y2,y3,y4,y5,y6,y7,y8,y9,y10,y11,y12⟩,yf,yl⟩:=H3.out.m.cells
 have l0:=block_lt H3.out.m.1
 go_wp2_with fail
 refine bodyPost_ret (v:=.tuple #[.agg #[.int .i64 hw,.int .i64 hh,.int .i64 d,.int .i64 hc',.bool lace,.slice none 0 0,.slice ca1 cn cc1,.int .i64 hw,.int .i64 hh,.int .i64 hc',.int .i64 d,.slice sa1 sn sc1,.slice kk kn kc1],.bool true]) ?_ rfl (HY.out _ _ _ _ _ _ _ ?_ ?_)
 ·simp[results,Tryz.results62,go_sem, *]
 ·exact (H3.out.stored _ _ _ _ _ _ _ _ _ _ _ _ _).1.called (bstart _ _)
 ·exact bal (H3.out.stored _ _ _ _ _ _ _ _ _ _ _ _ _).2 _
end
section
open Go.RowKit Go.Joins OutMath PutMath RastMath HeadMath ChunkMath
set_option maxRecDepth 100000 in
set_option maxHeartbeats 6400000 in
theorem implLessDepth (p:Pic) (q:PicA) (w:World) (hP:PngIn w p q) (hZ:PngSz p):
  Calls Tryz.prog 86 #[pngV p q] w (LessPost ((MayR p∧p.hd=16)∧HalfR p (257:Nat)) (halfP p 8 (257:Nat)) w):=by
 have hok:=fun W h=>implMay p q W h hZ
 have hha:=fun W h hR hd=>implHalved p q 8 257 W h hZ hR hd (by omega)
 have HNo:Hid (¬ ((MayR p∧p.hd=16)∧HalfR p (257:Nat))→∀ W,Below w.heap.size w W→LessPost ((MayR p∧p.hd=16)∧HalfR p (257:Nat)) (halfP p 8 (257:Nat)) w (.returned (.tuple #[.agg #[.int .i64 0,.int .i64 0,.int .i64 0,.int .i64 0,.bool false,.slice none 0 0,.slice none 0 0,.int .i64 0,.int .i64 0,.int .i64 0,.int .i64 0,.slice none 0 0,.slice none 0 0],.bool false])) W):=fun h W b=>.inl ⟨h,rfl,b⟩
 have HYes:Hid (((MayR p∧p.hd=16)∧HalfR p (257:Nat))→∀ (W:World) (q':PicA),PngSL W w.heap.size (halfP p 8 (257:Nat)) q'→Below w.heap.size w W→LessPost ((MayR p∧p.hd=16)∧HalfR p (257:Nat)) (halfP p 8 (257:Nat)) w (.returned (.tuple #[pngV (halfP p 8 (257:Nat)) q',.bool true])) W):=fun h W q' h1 h6=>.inr ⟨h,q',rfl,h1,h6⟩
 have HMR:Hid (MayR p→PngR p):=fun h=>h.1
 have HP:=hid_of hP
 clear hP hZ
 obtain⟨p0,hp0⟩:∃ p0,p0=p:=⟨_,rfl⟩
 obtain⟨hw,hh,hd,hc',lace,tn,T,cn,C,rw',rh,rc,rd,sn,S,kn,K⟩:=p
 obtain⟨ta,tc,ca,cc,sa,sc,ka,kc⟩:=q
 simp only [pngV] at hok hha HYes HNo ⊢
 rw[← hp0] at hok hha HP HYes HNo HMR ⊢
 clear hp0
 generalize halfP p0 8 (257:Nat)=r at hha HYes HNo ⊢
 obtain⟨xw,xh,xd,xc,xl,xtn,XT,xcn,XC,xrw,xrh,xrc,xrd,xsn,XS,xkn,XK⟩:=r
 simp only at hha HYes
 have H0:Hid (MoP w #[.int .i64 hw,.int .i64 hh,.int .i64 hd,.int .i64 hc',.bool lace,.slice ta tn tc,.slice ca cn cc,.int .i64 rw',.int .i64 rh,.int .i64 rc,.int .i64 rd,.slice sa sn sc,.slice ka kn kc] ((w.alloc (.cells #[.int .i64 hw,.int .i64 hh,.int .i64 hd,.int .i64 hc',.bool lace,.slice ta tn tc,.slice ca cn cc,.int .i64 rw',.int .i64 rh,.int .i64 rc,.int .i64 rd,.slice sa sn sc,.slice ka kn kc] 37)).alloc (.cells #[.int .i64 0,.int .i64 0,.int .i64 0,.int .i64 0,.bool false,.slice none 0 0,.slice none 0 0,.int .i64 0,.int .i64 0,.int .i64 0,.int .i64 0,.slice none 0 0,.slice none 0 0] 37))):=MoP.start w _ _ rfl
 by_cases e16:hd=16
 rotate_left
 ·have n16:(hd != 16)=true:=by simpa using e16
  have HN:=hid_of (HNo.out fun h=>e16 h.1.2)
  clear e16 HYes hha hok
  go_enter Tryz.func86,Tryz.ntmps86
  go_wp2_with fail
  refine bodyPost_ret (v:=.tuple #[.agg #[.int .i64 0,.int .i64 0,.int .i64 0,.int .i64 0,.bool false,.slice none 0 0,.slice none 0 0,.int .i64 0,.int .i64 0,.int .i64 0,.int .i64 0,.slice none 0 0,.slice none 0 0],.bool false]) ?_ rfl (HN.out _ ?_)
  ·simp[results,Tryz.results86,go_sem, *]
  ·exact H0.out.2.2
 subst e16
 go_enter Tryz.func86,Tryz.ntmps86
 go_wp2_with fail
 refine (hok _ (HP.out.called H0.out.2.2)).mono ?_
 rintro e w1 ⟨b,rfl,hb,hB⟩
 have H1:=hid_of (H0.out.called hB)
 have HB:=hid_of hb
 clear hB hb H0 hok
 cases b
 ·have HN:=hid_of (HNo.out fun h=>by have:=HB.out.mpr h.1.1; cases this)
  obtain⟨⟨z0,z1,z2,z3,z4,z5,z6,z7,z8,z9,z10,z11,z12,y0,y1,y2,y3,y4,y5,y6,y7,y8,y9,y10,y11,y12⟩,yf,yl⟩:=H1.out.cells
  clear HYes hha 
  go_wp2_with fail
  refine bodyPost_ret (v:=.tuple #[.agg #[.int .i64 0,.int .i64 0,.int .i64 0,.int .i64 0,.bool false,.slice none 0 0,.slice none 0 0,.int .i64 0,.int .i64 0,.int .i64 0,.int .i64 0,.slice none 0 0,.slice none 0 0],.bool false]) ?_ rfl (HN.out _ ?_)
  ·simp[results,Tryz.results86,go_sem, *]
  ·exact H1.out.stored _ _ _ _ _ _ _ _ _ _ _ _ _
 have HM:=hid_of (HB.out.mp rfl)
 have hha1:=fun W h=>hha W h (HMR.out HM.out) (by rfl)
 clear HB hha
 have la:=block_lt H1.out.1
 obtain⟨a0,a1,a2,a3,a4,a5,a6,a7,a8,a9,a10,a11,a12⟩:=zqc H1.out.1
 go_wp2_with fail
 clear la a0 a1 a2 a3 a4 a5 a6 a7 a8 a9 a10 a11 a12
 refine (hha1 _ (HP.out.called H1.out.2.2)).mono ?_
 rintro e w2 (⟨hn,rfl,hB⟩ | ⟨hy,q',rfl,hl,hB⟩)
 ·have H2:=hid_of (H1.out.called hB)
  have HN:=hid_of (HNo.out fun h=>hn h.2)
  clear hB hn H1 HYes hha1
  obtain⟨⟨z0,z1,z2,z3,z4,z5,z6,z7,z8,z9,z10,z11,z12,y0,y1,y2,y3,y4,y5,y6,y7,y8,y9,y10,y11,y12⟩,yf,yl⟩:=H2.out.cells
  unfold noPng
  go_wp2_with fail
  refine bodyPost_ret (v:=.tuple #[.agg #[.int .i64 0,.int .i64 0,.int .i64 0,.int .i64 0,.bool false,.slice none 0 0,.slice none 0 0,.int .i64 0,.int .i64 0,.int .i64 0,.int .i64 0,.slice none 0 0,.slice none 0 0],.bool false]) ?_ rfl (HN.out _ ?_)
  ·simp[results,Tryz.results86,go_sem, *]
  ·exact H2.out.stored _ _ _ _ _ _ _ _ _ _ _ _ _
 have H2:Hid (WP w #[.int .i64 hw,.int .i64 hh,.int .i64 16,.int .i64 hc',.bool lace,.slice ta tn tc,.slice ca cn cc,.int .i64 rw',.int .i64 rh,.int .i64 rc,.int .i64 rd,.slice sa sn sc,.slice ka kn kc] ⟨xw,xh,xd,xc,xl,xtn,XT,xcn,XC,xrw,xrh,xrc,xrd,xsn,XS,xkn,XK⟩ q' w2):=⟨H1.out.called hB,hl.low H1.out.2.2.size⟩
 have HY:=hid_of (HYes.out ⟨⟨HM.out,by simp⟩,hy⟩)
 clear hB hl hy H1 HYes HNo HM hha1
 obtain⟨ya,yb,yc,yd,ye,yf',yg,yh⟩:=q'
 simp only [pngV]
 obtain⟨⟨z0,z1,z2,z3,z4,z5,z6,z7,z8,z9,z10,z11,z12,y0,y1,y2,y3,y4,y5,y6,y7,y8,y9,y10,y11,y12⟩,yf,yl⟩:=H2.out.m.cells
 go_wp2_with fail
 refine bodyPost_ret (v:=.tuple #[.agg #[.int .i64 xw,.int .i64 xh,.int .i64 xd,.int .i64 xc,.bool xl,.slice ya xtn yb,.slice yc xcn yd,.int .i64 xrw,.int .i64 xrh,.int .i64 xrc,.int .i64 xrd,.slice ye xsn yf',.slice yg xkn yh],.bool true]) ?_ rfl (HY.out _ ⟨ya,yb,yc,yd,ye,yf',yg,yh⟩ ?_ ?_)
 ·simp[results,Tryz.results86,go_sem, *]
 ·exact (H2.out.stored _ _ _ _ _ _ _ _ _ _ _ _ _).1
 ·exact (H2.out.stored _ _ _ _ _ _ _ _ _ _ _ _ _).2
end
end Go.Proofs.YtkpbfmdnjnohlaaGreat
