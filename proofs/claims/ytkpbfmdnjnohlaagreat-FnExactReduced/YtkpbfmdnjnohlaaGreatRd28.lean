/-
  Texts of the proof, put together.
-/
import Derived.Test.YtkpbfmdnjnohlaaGreatRd27
namespace Go.Proofs.YtkpbfmdnjnohlaaGreat
open Go.RowKit Go.Joins OutMath PutMath RastMath HeadMath ChunkMath
def threeL (i:Nat):Int:=[2,4,8].getD i 0
theorem three_has (d:Int):(∃ i,i < 3∧threeL i=d)↔(d=2∨d=4∨d=8):=by
 unfold threeL
 constructor
 ·rintro⟨i,hi,rfl⟩
  match i,hi with
  | 0,_=>simp
  | 1,_=>simp
  | 2,_=>simp
  | k+3,hk=>omega
 ·rintro (rfl | rfl | rfl)
  ·exact⟨0,by omega,rfl⟩
  ·exact⟨1,by omega,rfl⟩
  ·exact⟨2,by omega,rfl⟩
theorem three_any (w:World) (d:Int):Calls Tryz.prog 61 #[.slice (some ⟨w.heap.size,0,none⟩) 3 3,.int .i64 d] (w.alloc (.cells #[.int .i64 2,.int .i64 4,.int .i64 8] 3)) fun e w'=>e=.returned (.bool (decide (d=2∨d=4∨d=8)))∧w'=w.alloc (.cells #[.int .i64 2,.int .i64 4,.int .i64 8] 3):=by
 have hc:Came (w.alloc (.cells #[.int .i64 2,.int .i64 4,.int .i64 8] 3)) (some ⟨w.heap.size,0,none⟩) 3 threeL:=by
  refine .inr ⟨w.heap.size,0,rfl,by simp,fun j hj=>?_⟩
  rw[Nat.zero_add,cell_of_block (heap_alloc_new w _) j]
  match j,hj with
  | 0,_=>rfl
  | 1,_=>rfl
  | 2,_=>rfl
  | k+3,hk=>omega
 refine (contains_any (some ⟨w.heap.size,0,none⟩) 3 3 threeL d _ hc (by omega)).mono ?_
 rintro e w' ⟨rfl,rfl⟩
 refine⟨?_,rfl⟩
 rw[decide_eq_decide.mpr (three_has d)]
set_option maxRecDepth 100000 in
set_option maxHeartbeats 6400000 in
theorem implGray_2 (p:Pic) (q:PicA) (w:World) (hP:PngIn w p q) (hZ:PngSz p) (hdd:p.hd=2):
  Calls Tryz.prog 20 #[pngV p q] w (LessPost ((MayR p∧p.hc=0)∧HalfR p (3:Nat)) (halfP p 1 (3:Nat)) w):=by
 have hok:=fun W h=>implMay p q W h hZ
 have hha:=fun W h hR hd=>implHalved p q 1 3 W h hZ hR hd (by omega)
 have HNo:Hid (¬ ((MayR p∧p.hc=0)∧HalfR p (3:Nat))→∀ W,Below w.heap.size w W→LessPost ((MayR p∧p.hc=0)∧HalfR p (3:Nat)) (halfP p 1 (3:Nat)) w (.returned (.tuple #[.agg #[.int .i64 0,.int .i64 0,.int .i64 0,.int .i64 0,.bool false,.slice none 0 0,.slice none 0 0,.int .i64 0,.int .i64 0,.int .i64 0,.int .i64 0,.slice none 0 0,.slice none 0 0],.bool false])) W):=fun h W b=>.inl ⟨h,rfl,b⟩
 have HYes:Hid (((MayR p∧p.hc=0)∧HalfR p (3:Nat))→∀ (W:World) (q':PicA),PngSL W w.heap.size (halfP p 1 (3:Nat)) q'→Below w.heap.size w W→LessPost ((MayR p∧p.hc=0)∧HalfR p (3:Nat)) (halfP p 1 (3:Nat)) w (.returned (.tuple #[pngV (halfP p 1 (3:Nat)) q',.bool true])) W):=fun h W q' h1 h6=>.inr ⟨h,q',rfl,h1,h6⟩
 have HMR:Hid (MayR p→PngR p):=fun h=>h.1
 have HP:=hid_of hP
 clear hP hZ
 obtain⟨p0,hp0⟩:∃ p0,p0=p:=⟨_,rfl⟩
 obtain⟨hw,hh,hd,hc',lace,tn,T,cn,C,rw',rh,rc,rd,sn,S,kn,K⟩:=p
 obtain⟨ta,tc,ca,cc,sa,sc,ka,kc⟩:=q
 simp only [pngV] at hok hha HYes HNo ⊢
 replace hdd:hd=2:=hdd
 rw[← hp0] at hok hha HP HYes HNo HMR ⊢
 clear hp0
 subst hdd
 generalize halfP p0 1 (3:Nat)=r at hha HYes HNo ⊢
 obtain⟨xw,xh,xd,xc,xl,xtn,XT,xcn,XC,xrw,xrh,xrc,xrd,xsn,XS,xkn,XK⟩:=r
 simp only at hha HYes
 have H0:Hid (MoP w #[.int .i64 hw,.int .i64 hh,.int .i64 2,.int .i64 hc',.bool lace,.slice ta tn tc,.slice ca cn cc,.int .i64 rw',.int .i64 rh,.int .i64 rc,.int .i64 rd,.slice sa sn sc,.slice ka kn kc] ((w.alloc (.cells #[.int .i64 hw,.int .i64 hh,.int .i64 2,.int .i64 hc',.bool lace,.slice ta tn tc,.slice ca cn cc,.int .i64 rw',.int .i64 rh,.int .i64 rc,.int .i64 rd,.slice sa sn sc,.slice ka kn kc] 37)).alloc (.cells #[.int .i64 0,.int .i64 0,.int .i64 0,.int .i64 0,.bool false,.slice none 0 0,.slice none 0 0,.int .i64 0,.int .i64 0,.int .i64 0,.int .i64 0,.slice none 0 0,.slice none 0 0] 37))):=MoP.start w _ _ rfl
 by_cases e0:hc'=0
 rotate_left
 ·have n0:(hc' != 0)=true:=by simpa using e0
  have HN:=hid_of (HNo.out fun h=>e0 h.1.2)
  clear e0 HYes hha hok
  go_enter Tryz.func20,Tryz.ntmps20
  go_wp2_with fail
  refine bodyPost_ret (v:=.tuple #[.agg #[.int .i64 0,.int .i64 0,.int .i64 0,.int .i64 0,.bool false,.slice none 0 0,.slice none 0 0,.int .i64 0,.int .i64 0,.int .i64 0,.int .i64 0,.slice none 0 0,.slice none 0 0],.bool false]) ?_ rfl (HN.out _ ?_)
  ·simp[results,Tryz.results20,go_sem, *]
  ·exact H0.out.2.2
 subst e0
 have hct:=three_any ((w.alloc (.cells #[.int .i64 hw,.int .i64 hh,.int .i64 2,.int .i64 0,.bool lace,.slice ta tn tc,.slice ca cn cc,.int .i64 rw',.int .i64 rh,.int .i64 rc,.int .i64 rd,.slice sa sn sc,.slice ka kn kc] 37)).alloc (.cells #[.int .i64 0,.int .i64 0,.int .i64 0,.int .i64 0,.bool false,.slice none 0 0,.slice none 0 0,.int .i64 0,.int .i64 0,.int .i64 0,.int .i64 0,.slice none 0 0,.slice none 0 0] 37)) 2
 rw[show ((w.alloc (.cells #[.int .i64 hw,.int .i64 hh,.int .i64 2,.int .i64 0,.bool lace,.slice ta tn tc,.slice ca cn cc,.int .i64 rw',.int .i64 rh,.int .i64 rc,.int .i64 rd,.slice sa sn sc,.slice ka kn kc] 37)).alloc (.cells #[.int .i64 0,.int .i64 0,.int .i64 0,.int .i64 0,.bool false,.slice none 0 0,.slice none 0 0,.int .i64 0,.int .i64 0,.int .i64 0,.int .i64 0,.slice none 0 0,.slice none 0 0] 37)).heap.size=w.heap.size+1+1 by simp] at hct
 have H1:=hid_of (H0.out.called (bstart _ (.cells #[.int .i64 2,.int .i64 4,.int .i64 8] 3)))
 clear H0
 go_enter Tryz.func20,Tryz.ntmps20
 go_wp2_with fail
 refine hct.mono ?_
 rintro e w1 ⟨rfl,rfl⟩
 clear hct
 generalize ((w.alloc (.cells #[.int .i64 hw,.int .i64 hh,.int .i64 2,.int .i64 0,.bool lace,.slice ta tn tc,.slice ca cn cc,.int .i64 rw',.int .i64 rh,.int .i64 rc,.int .i64 rd,.slice sa sn sc,.slice ka kn kc] 37)).alloc (.cells #[.int .i64 0,.int .i64 0,.int .i64 0,.int .i64 0,.bool false,.slice none 0 0,.slice none 0 0,.int .i64 0,.int .i64 0,.int .i64 0,.int .i64 0,.slice none 0 0,.slice none 0 0] 37)).alloc (.cells #[.int .i64 2,.int .i64 4,.int .i64 8] 3)=w1 at H1 ⊢
 have la:=block_lt H1.out.1
 obtain⟨a0,a1,a2,a3,a4,a5,a6,a7,a8,a9,a10,a11,a12⟩:=zqc H1.out.1
 go_wp2_with fail
 clear la a0 a1 a2 a3 a4 a5 a6 a7 a8 a9 a10 a11 a12
 refine (hok _ (HP.out.called H1.out.2.2)).mono ?_
 rintro e w2 ⟨b,rfl,hb,hB⟩
 have H2:=hid_of (H1.out.called hB)
 have HB:=hid_of hb
 clear hB hb H1 hok
 cases b
 ·have HN:=hid_of (HNo.out fun h=>by have:=HB.out.mpr h.1.1; cases this)
  obtain⟨⟨z0,z1,z2,z3,z4,z5,z6,z7,z8,z9,z10,z11,z12,y0,y1,y2,y3,y4,y5,y6,y7,y8,y9,y10,y11,y12⟩,yf,yl⟩:=H2.out.cells
  clear HYes hha HB
  go_wp2_with fail
  refine bodyPost_ret (v:=.tuple #[.agg #[.int .i64 0,.int .i64 0,.int .i64 0,.int .i64 0,.bool false,.slice none 0 0,.slice none 0 0,.int .i64 0,.int .i64 0,.int .i64 0,.int .i64 0,.slice none 0 0,.slice none 0 0],.bool false]) ?_ rfl (HN.out _ ?_)
  ·simp[results,Tryz.results20,go_sem, *]
  ·exact H2.out.stored _ _ _ _ _ _ _ _ _ _ _ _ _
 have HM:=hid_of (HB.out.mp rfl)
 have hha1:=fun W h=>hha W h (HMR.out HM.out) (by rfl)
 clear HB hha
 have la:=block_lt H2.out.1
 obtain⟨a0,a1,a2,a3,a4,a5,a6,a7,a8,a9,a10,a11,a12⟩:=zqc H2.out.1
 go_wp2_with fail
 clear la a0 a1 a2 a3 a4 a5 a6 a7 a8 a9 a10 a11 a12
 refine (hha1 _ (HP.out.called H2.out.2.2)).mono ?_
 rintro e w3 (⟨hn,rfl,hB⟩ | ⟨hy,q',rfl,hl,hB⟩)
 ·have H3:=hid_of (H2.out.called hB)
  have HN:=hid_of (HNo.out fun h=>hn h.2)
  clear hB hn H2 HYes hha1
  obtain⟨⟨z0,z1,z2,z3,z4,z5,z6,z7,z8,z9,z10,z11,z12,y0,y1,y2,y3,y4,y5,y6,y7,y8,y9,y10,y11,y12⟩,yf,yl⟩:=H3.out.cells
  unfold noPng
  go_wp2_with fail
  refine bodyPost_ret (v:=.tuple #[.agg #[.int .i64 0,.int .i64 0,.int .i64 0,.int .i64 0,.bool false,.slice none 0 0,.slice none 0 0,.int .i64 0,.int .i64 0,.int .i64 0,.int .i64 0,.slice none 0 0,.slice none 0 0],.bool false]) ?_ rfl (HN.out _ ?_)
  ·simp[results,Tryz.results20,go_sem, *]
  ·exact H3.out.stored _ _ _ _ _ _ _ _ _ _ _ _ _
 have H3:Hid (WP w #[.int .i64 hw,.int .i64 hh,.int .i64 2,.int .i64 0,.bool lace,.slice ta tn tc,.slice ca cn cc,.int .i64 rw',.int .i64 rh,.int .i64 rc,.int .i64 rd,.slice sa sn sc,.slice ka kn kc] ⟨xw,xh,xd,xc,xl,xtn,XT,xcn,XC,xrw,xrh,xrc,xrd,xsn,XS,xkn,XK⟩ q' w3):=⟨H2.out.called hB,hl.low H2.out.2.2.size⟩
 have HY:=hid_of (HYes.out ⟨⟨HM.out,by simp⟩,hy⟩)
 clear hB hl hy H2 HYes HNo HM hha1
 obtain⟨ya,yb,yc,yd,ye,yf',yg,yh⟩:=q'
 simp only [pngV]
 obtain⟨⟨z0,z1,z2,z3,z4,z5,z6,z7,z8,z9,z10,z11,z12,y0,y1,y2,y3,y4,y5,y6,y7,y8,y9,y10,y11,y12⟩,yf,yl⟩:=H3.out.m.cells
 go_wp2_with fail
 refine bodyPost_ret (v:=.tuple #[.agg #[.int .i64 xw,.int .i64 xh,.int .i64 xd,.int .i64 xc,.bool xl,.slice ya xtn yb,.slice yc xcn yd,.int .i64 xrw,.int .i64 xrh,.int .i64 xrc,.int .i64 xrd,.slice ye xsn yf',.slice yg xkn yh],.bool true]) ?_ rfl (HY.out _ ⟨ya,yb,yc,yd,ye,yf',yg,yh⟩ ?_ ?_)
 ·simp[results,Tryz.results20,go_sem, *]
 ·exact (H3.out.stored _ _ _ _ _ _ _ _ _ _ _ _ _).1
 ·exact (H3.out.stored _ _ _ _ _ _ _ _ _ _ _ _ _).2
set_option maxRecDepth 100000 in
set_option maxHeartbeats 6400000 in
theorem implGray_4 (p:Pic) (q:PicA) (w:World) (hP:PngIn w p q) (hZ:PngSz p) (hdd:p.hd=4):
  Calls Tryz.prog 20 #[pngV p q] w (LessPost ((MayR p∧p.hc=0)∧HalfR p (5:Nat)) (halfP p 2 (5:Nat)) w):=by
 have hok:=fun W h=>implMay p q W h hZ
 have hha:=fun W h hR hd=>implHalved p q 2 5 W h hZ hR hd (by omega)
 have HNo:Hid (¬ ((MayR p∧p.hc=0)∧HalfR p (5:Nat))→∀ W,Below w.heap.size w W→LessPost ((MayR p∧p.hc=0)∧HalfR p (5:Nat)) (halfP p 2 (5:Nat)) w (.returned (.tuple #[.agg #[.int .i64 0,.int .i64 0,.int .i64 0,.int .i64 0,.bool false,.slice none 0 0,.slice none 0 0,.int .i64 0,.int .i64 0,.int .i64 0,.int .i64 0,.slice none 0 0,.slice none 0 0],.bool false])) W):=fun h W b=>.inl ⟨h,rfl,b⟩
 have HYes:Hid (((MayR p∧p.hc=0)∧HalfR p (5:Nat))→∀ (W:World) (q':PicA),PngSL W w.heap.size (halfP p 2 (5:Nat)) q'→Below w.heap.size w W→LessPost ((MayR p∧p.hc=0)∧HalfR p (5:Nat)) (halfP p 2 (5:Nat)) w (.returned (.tuple #[pngV (halfP p 2 (5:Nat)) q',.bool true])) W):=fun h W q' h1 h6=>.inr ⟨h,q',rfl,h1,h6⟩
 have HMR:Hid (MayR p→PngR p):=fun h=>h.1
 have HP:=hid_of hP
 clear hP hZ
 obtain⟨p0,hp0⟩:∃ p0,p0=p:=⟨_,rfl⟩
 obtain⟨hw,hh,hd,hc',lace,tn,T,cn,C,rw',rh,rc,rd,sn,S,kn,K⟩:=p
 obtain⟨ta,tc,ca,cc,sa,sc,ka,kc⟩:=q
 simp only [pngV] at hok hha HYes HNo ⊢
 replace hdd:hd=4:=hdd
 rw[← hp0] at hok hha HP HYes HNo HMR ⊢
 clear hp0
 subst hdd
 generalize halfP p0 2 (5:Nat)=r at hha HYes HNo ⊢
 obtain⟨xw,xh,xd,xc,xl,xtn,XT,xcn,XC,xrw,xrh,xrc,xrd,xsn,XS,xkn,XK⟩:=r
 simp only at hha HYes
 have H0:Hid (MoP w #[.int .i64 hw,.int .i64 hh,.int .i64 4,.int .i64 hc',.bool lace,.slice ta tn tc,.slice ca cn cc,.int .i64 rw',.int .i64 rh,.int .i64 rc,.int .i64 rd,.slice sa sn sc,.slice ka kn kc] ((w.alloc (.cells #[.int .i64 hw,.int .i64 hh,.int .i64 4,.int .i64 hc',.bool lace,.slice ta tn tc,.slice ca cn cc,.int .i64 rw',.int .i64 rh,.int .i64 rc,.int .i64 rd,.slice sa sn sc,.slice ka kn kc] 37)).alloc (.cells #[.int .i64 0,.int .i64 0,.int .i64 0,.int .i64 0,.bool false,.slice none 0 0,.slice none 0 0,.int .i64 0,.int .i64 0,.int .i64 0,.int .i64 0,.slice none 0 0,.slice none 0 0] 37))):=MoP.start w _ _ rfl
 by_cases e0:hc'=0
 rotate_left
 ·have n0:(hc' != 0)=true:=by simpa using e0
  have HN:=hid_of (HNo.out fun h=>e0 h.1.2)
  clear e0 HYes hha hok
  go_enter Tryz.func20,Tryz.ntmps20
  go_wp2_with fail
  refine bodyPost_ret (v:=.tuple #[.agg #[.int .i64 0,.int .i64 0,.int .i64 0,.int .i64 0,.bool false,.slice none 0 0,.slice none 0 0,.int .i64 0,.int .i64 0,.int .i64 0,.int .i64 0,.slice none 0 0,.slice none 0 0],.bool false]) ?_ rfl (HN.out _ ?_)
  ·simp[results,Tryz.results20,go_sem, *]
  ·exact H0.out.2.2
 subst e0
 have hct:=three_any ((w.alloc (.cells #[.int .i64 hw,.int .i64 hh,.int .i64 4,.int .i64 0,.bool lace,.slice ta tn tc,.slice ca cn cc,.int .i64 rw',.int .i64 rh,.int .i64 rc,.int .i64 rd,.slice sa sn sc,.slice ka kn kc] 37)).alloc (.cells #[.int .i64 0,.int .i64 0,.int .i64 0,.int .i64 0,.bool false,.slice none 0 0,.slice none 0 0,.int .i64 0,.int .i64 0,.int .i64 0,.int .i64 0,.slice none 0 0,.slice none 0 0] 37)) 4
 rw[show ((w.alloc (.cells #[.int .i64 hw,.int .i64 hh,.int .i64 4,.int .i64 0,.bool lace,.slice ta tn tc,.slice ca cn cc,.int .i64 rw',.int .i64 rh,.int .i64 rc,.int .i64 rd,.slice sa sn sc,.slice ka kn kc] 37)).alloc (.cells #[.int .i64 0,.int .i64 0,.int .i64 0,.int .i64 0,.bool false,.slice none 0 0,.slice none 0 0,.int .i64 0,.int .i64 0,.int .i64 0,.int .i64 0,.slice none 0 0,.slice none 0 0] 37)).heap.size=w.heap.size+1+1 by simp] at hct
 have H1:=hid_of (H0.out.called (bstart _ (.cells #[.int .i64 2,.int .i64 4,.int .i64 8] 3)))
 clear H0
 go_enter Tryz.func20,Tryz.ntmps20
 go_wp2_with fail
 refine hct.mono ?_
 rintro e w1 ⟨rfl,rfl⟩
 clear hct
 generalize ((w.alloc (.cells #[.int .i64 hw,.int .i64 hh,.int .i64 4,.int .i64 0,.bool lace,.slice ta tn tc,.slice ca cn cc,.int .i64 rw',.int .i64 rh,.int .i64 rc,.int .i64 rd,.slice sa sn sc,.slice ka kn kc] 37)).alloc (.cells #[.int .i64 0,.int .i64 0,.int .i64 0,.int .i64 0,.bool false,.slice none 0 0,.slice none 0 0,.int .i64 0,.int .i64 0,.int .i64 0,.int .i64 0,.slice none 0 0,.slice none 0 0] 37)).alloc (.cells #[.int .i64 2,.int .i64 4,.int .i64 8] 3)=w1 at H1 ⊢
 have la:=block_lt H1.out.1
 obtain⟨a0,a1,a2,a3,a4,a5,a6,a7,a8,a9,a10,a11,a12⟩:=zqc H1.out.1
 go_wp2_with fail
 clear la a0 a1 a2 a3 a4 a5 a6 a7 a8 a9 a10 a11 a12
 refine (hok _ (HP.out.called H1.out.2.2)).mono ?_
 rintro e w2 ⟨b,rfl,hb,hB⟩
 have H2:=hid_of (H1.out.called hB)
 have HB:=hid_of hb
 clear hB hb H1 hok
 cases b
 ·have HN:=hid_of (HNo.out fun h=>by have:=HB.out.mpr h.1.1; cases this)
  obtain⟨⟨z0,z1,z2,z3,z4,z5,z6,z7,z8,z9,z10,z11,z12,y0,y1,y2,y3,y4,y5,y6,y7,y8,y9,y10,y11,y12⟩,yf,yl⟩:=H2.out.cells
  clear HYes hha HB
  go_wp2_with fail
  refine bodyPost_ret (v:=.tuple #[.agg #[.int .i64 0,.int .i64 0,.int .i64 0,.int .i64 0,.bool false,.slice none 0 0,.slice none 0 0,.int .i64 0,.int .i64 0,.int .i64 0,.int .i64 0,.slice none 0 0,.slice none 0 0],.bool false]) ?_ rfl (HN.out _ ?_)
  ·simp[results,Tryz.results20,go_sem, *]
  ·exact H2.out.stored _ _ _ _ _ _ _ _ _ _ _ _ _
 have HM:=hid_of (HB.out.mp rfl)
 have hha1:=fun W h=>hha W h (HMR.out HM.out) (by rfl)
 clear HB hha
 have la:=block_lt H2.out.1
 obtain⟨a0,a1,a2,a3,a4,a5,a6,a7,a8,a9,a10,a11,a12⟩:=zqc H2.out.1
 go_wp2_with fail
 clear la a0 a1 a2 a3 a4 a5 a6 a7 a8 a9 a10 a11 a12
 refine (hha1 _ (HP.out.called H2.out.2.2)).mono ?_
 rintro e w3 (⟨hn,rfl,hB⟩ | ⟨hy,q',rfl,hl,hB⟩)
 ·have H3:=hid_of (H2.out.called hB)
  have HN:=hid_of (HNo.out fun h=>hn h.2)
  clear hB hn H2 HYes hha1
  obtain⟨⟨z0,z1,z2,z3,z4,z5,z6,z7,z8,z9,z10,z11,z12,y0,y1,y2,y3,y4,y5,y6,y7,y8,y9,y10,y11,y12⟩,yf,yl⟩:=H3.out.cells
  unfold noPng
  go_wp2_with fail
  refine bodyPost_ret (v:=.tuple #[.agg #[.int .i64 0,.int .i64 0,.int .i64 0,.int .i64 0,.bool false,.slice none 0 0,.slice none 0 0,.int .i64 0,.int .i64 0,.int .i64 0,.int .i64 0,.slice none 0 0,.slice none 0 0],.bool false]) ?_ rfl (HN.out _ ?_)
  ·simp[results,Tryz.results20,go_sem, *]
  ·exact H3.out.stored _ _ _ _ _ _ _ _ _ _ _ _ _
 have H3:Hid (WP w #[.int .i64 hw,.int .i64 hh,.int .i64 4,.int .i64 0,.bool lace,.slice ta tn tc,.slice ca cn cc,.int .i64 rw',.int .i64 rh,.int .i64 rc,.int .i64 rd,.slice sa sn sc,.slice ka kn kc] ⟨xw,xh,xd,xc,xl,xtn,XT,xcn,XC,xrw,xrh,xrc,xrd,xsn,XS,xkn,XK⟩ q' w3):=⟨H2.out.called hB,hl.low H2.out.2.2.size⟩
 have HY:=hid_of (HYes.out ⟨⟨HM.out,by simp⟩,hy⟩)
 clear hB hl hy H2 HYes HNo HM hha1
 obtain⟨ya,yb,yc,yd,ye,yf',yg,yh⟩:=q'
 simp only [pngV]
 obtain⟨⟨z0,z1,z2,z3,z4,z5,z6,z7,z8,z9,z10,z11,z12,y0,y1,y2,y3,y4,y5,y6,y7,y8,y9,y10,y11,y12⟩,yf,yl⟩:=H3.out.m.cells
 go_wp2_with fail
 refine bodyPost_ret (v:=.tuple #[.agg #[.int .i64 xw,.int .i64 xh,.int .i64 xd,.int .i64 xc,.bool xl,.slice ya xtn yb,.slice yc xcn yd,.int .i64 xrw,.int .i64 xrh,.int .i64 xrc,.int .i64 xrd,.slice ye xsn yf',.slice yg xkn yh],.bool true]) ?_ rfl (HY.out _ ⟨ya,yb,yc,yd,ye,yf',yg,yh⟩ ?_ ?_)
 ·simp[results,Tryz.results20,go_sem, *]
 ·exact (H3.out.stored _ _ _ _ _ _ _ _ _ _ _ _ _).1
 ·exact (H3.out.stored _ _ _ _ _ _ _ _ _ _ _ _ _).2
set_option maxRecDepth 100000 in
set_option maxHeartbeats 6400000 in
theorem implGray_8 (p:Pic) (q:PicA) (w:World) (hP:PngIn w p q) (hZ:PngSz p) (hdd:p.hd=8):
  Calls Tryz.prog 20 #[pngV p q] w (LessPost ((MayR p∧p.hc=0)∧HalfR p (17:Nat)) (halfP p 4 (17:Nat)) w):=by
 have hok:=fun W h=>implMay p q W h hZ
 have hha:=fun W h hR hd=>implHalved p q 4 17 W h hZ hR hd (by omega)
 have HNo:Hid (¬ ((MayR p∧p.hc=0)∧HalfR p (17:Nat))→∀ W,Below w.heap.size w W→LessPost ((MayR p∧p.hc=0)∧HalfR p (17:Nat)) (halfP p 4 (17:Nat)) w (.returned (.tuple #[.agg #[.int .i64 0,.int .i64 0,.int .i64 0,.int .i64 0,.bool false,.slice none 0 0,.slice none 0 0,.int .i64 0,.int .i64 0,.int .i64 0,.int .i64 0,.slice none 0 0,.slice none 0 0],.bool false])) W):=fun h W b=>.inl ⟨h,rfl,b⟩
 have HYes:Hid (((MayR p∧p.hc=0)∧HalfR p (17:Nat))→∀ (W:World) (q':PicA),PngSL W w.heap.size (halfP p 4 (17:Nat)) q'→Below w.heap.size w W→LessPost ((MayR p∧p.hc=0)∧HalfR p (17:Nat)) (halfP p 4 (17:Nat)) w (.returned (.tuple #[pngV (halfP p 4 (17:Nat)) q',.bool true])) W):=fun h W q' h1 h6=>.inr ⟨h,q',rfl,h1,h6⟩
 have HMR:Hid (MayR p→PngR p):=fun h=>h.1
 have HP:=hid_of hP
 clear hP hZ
 obtain⟨p0,hp0⟩:∃ p0,p0=p:=⟨_,rfl⟩
 obtain⟨hw,hh,hd,hc',lace,tn,T,cn,C,rw',rh,rc,rd,sn,S,kn,K⟩:=p
 obtain⟨ta,tc,ca,cc,sa,sc,ka,kc⟩:=q
 simp only [pngV] at hok hha HYes HNo ⊢
 replace hdd:hd=8:=hdd
 rw[← hp0] at hok hha HP HYes HNo HMR ⊢
 clear hp0
 subst hdd
 generalize halfP p0 4 (17:Nat)=r at hha HYes HNo ⊢
 obtain⟨xw,xh,xd,xc,xl,xtn,XT,xcn,XC,xrw,xrh,xrc,xrd,xsn,XS,xkn,XK⟩:=r
 simp only at hha HYes
 have H0:Hid (MoP w #[.int .i64 hw,.int .i64 hh,.int .i64 8,.int .i64 hc',.bool lace,.slice ta tn tc,.slice ca cn cc,.int .i64 rw',.int .i64 rh,.int .i64 rc,.int .i64 rd,.slice sa sn sc,.slice ka kn kc] ((w.alloc (.cells #[.int .i64 hw,.int .i64 hh,.int .i64 8,.int .i64 hc',.bool lace,.slice ta tn tc,.slice ca cn cc,.int .i64 rw',.int .i64 rh,.int .i64 rc,.int .i64 rd,.slice sa sn sc,.slice ka kn kc] 37)).alloc (.cells #[.int .i64 0,.int .i64 0,.int .i64 0,.int .i64 0,.bool false,.slice none 0 0,.slice none 0 0,.int .i64 0,.int .i64 0,.int .i64 0,.int .i64 0,.slice none 0 0,.slice none 0 0] 37))):=MoP.start w _ _ rfl
 by_cases e0:hc'=0
 rotate_left
 ·have n0:(hc' != 0)=true:=by simpa using e0
  have HN:=hid_of (HNo.out fun h=>e0 h.1.2)
  clear e0 HYes hha hok
  go_enter Tryz.func20,Tryz.ntmps20
  go_wp2_with fail
  refine bodyPost_ret (v:=.tuple #[.agg #[.int .i64 0,.int .i64 0,.int .i64 0,.int .i64 0,.bool false,.slice none 0 0,.slice none 0 0,.int .i64 0,.int .i64 0,.int .i64 0,.int .i64 0,.slice none 0 0,.slice none 0 0],.bool false]) ?_ rfl (HN.out _ ?_)
  ·simp[results,Tryz.results20,go_sem, *]
  ·exact H0.out.2.2
 subst e0
 have hct:=three_any ((w.alloc (.cells #[.int .i64 hw,.int .i64 hh,.int .i64 8,.int .i64 0,.bool lace,.slice ta tn tc,.slice ca cn cc,.int .i64 rw',.int .i64 rh,.int .i64 rc,.int .i64 rd,.slice sa sn sc,.slice ka kn kc] 37)).alloc (.cells #[.int .i64 0,.int .i64 0,.int .i64 0,.int .i64 0,.bool false,.slice none 0 0,.slice none 0 0,.int .i64 0,.int .i64 0,.int .i64 0,.int .i64 0,.slice none 0 0,.slice none 0 0] 37)) 8
 rw[show ((w.alloc (.cells #[.int .i64 hw,.int .i64 hh,.int .i64 8,.int .i64 0,.bool lace,.slice ta tn tc,.slice ca cn cc,.int .i64 rw',.int .i64 rh,.int .i64 rc,.int .i64 rd,.slice sa sn sc,.slice ka kn kc] 37)).alloc (.cells #[.int .i64 0,.int .i64 0,.int .i64 0,.int .i64 0,.bool false,.slice none 0 0,.slice none 0 0,.int .i64 0,.int .i64 0,.int .i64 0,.int .i64 0,.slice none 0 0,.slice none 0 0] 37)).heap.size=w.heap.size+1+1 by simp] at hct
 have H1:=hid_of (H0.out.called (bstart _ (.cells #[.int .i64 2,.int .i64 4,.int .i64 8] 3)))
 clear H0
 go_enter Tryz.func20,Tryz.ntmps20
 go_wp2_with fail
 refine hct.mono ?_
 rintro e w1 ⟨rfl,rfl⟩
 clear hct
 generalize ((w.alloc (.cells #[.int .i64 hw,.int .i64 hh,.int .i64 8,.int .i64 0,.bool lace,.slice ta tn tc,.slice ca cn cc,.int .i64 rw',.int .i64 rh,.int .i64 rc,.int .i64 rd,.slice sa sn sc,.slice ka kn kc] 37)).alloc (.cells #[.int .i64 0,.int .i64 0,.int .i64 0,.int .i64 0,.bool false,.slice none 0 0,.slice none 0 0,.int .i64 0,.int .i64 0,.int .i64 0,.int .i64 0,.slice none 0 0,.slice none 0 0] 37)).alloc (.cells #[.int .i64 2,.int .i64 4,.int .i64 8] 3)=w1 at H1 ⊢
 have la:=block_lt H1.out.1
 obtain⟨a0,a1,a2,a3,a4,a5,a6,a7,a8,a9,a10,a11,a12⟩:=zqc H1.out.1
 go_wp2_with fail
 clear la a0 a1 a2 a3 a4 a5 a6 a7 a8 a9 a10 a11 a12
 refine (hok _ (HP.out.called H1.out.2.2)).mono ?_
 rintro e w2 ⟨b,rfl,hb,hB⟩
 have H2:=hid_of (H1.out.called hB)
 have HB:=hid_of hb
 clear hB hb H1 hok
 cases b
 ·have HN:=hid_of (HNo.out fun h=>by have:=HB.out.mpr h.1.1; cases this)
  obtain⟨⟨z0,z1,z2,z3,z4,z5,z6,z7,z8,z9,z10,z11,z12,y0,y1,y2,y3,y4,y5,y6,y7,y8,y9,y10,y11,y12⟩,yf,yl⟩:=H2.out.cells
  clear HYes hha HB
  go_wp2_with fail
  refine bodyPost_ret (v:=.tuple #[.agg #[.int .i64 0,.int .i64 0,.int .i64 0,.int .i64 0,.bool false,.slice none 0 0,.slice none 0 0,.int .i64 0,.int .i64 0,.int .i64 0,.int .i64 0,.slice none 0 0,.slice none 0 0],.bool false]) ?_ rfl (HN.out _ ?_)
  ·simp[results,Tryz.results20,go_sem, *]
  ·exact H2.out.stored _ _ _ _ _ _ _ _ _ _ _ _ _
 have HM:=hid_of (HB.out.mp rfl)
 have hha1:=fun W h=>hha W h (HMR.out HM.out) (by rfl)
 clear HB hha
 have la:=block_lt H2.out.1
 obtain⟨a0,a1,a2,a3,a4,a5,a6,a7,a8,a9,a10,a11,a12⟩:=zqc H2.out.1
 go_wp2_with fail
 clear la a0 a1 a2 a3 a4 a5 a6 a7 a8 a9 a10 a11 a12
 refine (hha1 _ (HP.out.called H2.out.2.2)).mono ?_
 rintro e w3 (⟨hn,rfl,hB⟩ | ⟨hy,q',rfl,hl,hB⟩)
 ·have H3:=hid_of (H2.out.called hB)
  have HN:=hid_of (HNo.out fun h=>hn h.2)
  clear hB hn H2 HYes hha1
  obtain⟨⟨z0,z1,z2,z3,z4,z5,z6,z7,z8,z9,z10,z11,z12,y0,y1,y2,y3,y4,y5,y6,y7,y8,y9,y10,y11,y12⟩,yf,yl⟩:=H3.out.cells
  unfold noPng
  go_wp2_with fail
  refine bodyPost_ret (v:=.tuple #[.agg #[.int .i64 0,.int .i64 0,.int .i64 0,.int .i64 0,.bool false,.slice none 0 0,.slice none 0 0,.int .i64 0,.int .i64 0,.int .i64 0,.int .i64 0,.slice none 0 0,.slice none 0 0],.bool false]) ?_ rfl (HN.out _ ?_)
  ·simp[results,Tryz.results20,go_sem, *]
  ·exact H3.out.stored _ _ _ _ _ _ _ _ _ _ _ _ _
 have H3:Hid (WP w #[.int .i64 hw,.int .i64 hh,.int .i64 8,.int .i64 0,.bool lace,.slice ta tn tc,.slice ca cn cc,.int .i64 rw',.int .i64 rh,.int .i64 rc,.int .i64 rd,.slice sa sn sc,.slice ka kn kc] ⟨xw,xh,xd,xc,xl,xtn,XT,xcn,XC,xrw,xrh,xrc,xrd,xsn,XS,xkn,XK⟩ q' w3):=⟨H2.out.called hB,hl.low H2.out.2.2.size⟩
 have HY:=hid_of (HYes.out ⟨⟨HM.out,by simp⟩,hy⟩)
 clear hB hl hy H2 HYes HNo HM hha1
 obtain⟨ya,yb,yc,yd,ye,yf',yg,yh⟩:=q'
 simp only [pngV]
 obtain⟨⟨z0,z1,z2,z3,z4,z5,z6,z7,z8,z9,z10,z11,z12,y0,y1,y2,y3,y4,y5,y6,y7,y8,y9,y10,y11,y12⟩,yf,yl⟩:=H3.out.m.cells
 go_wp2_with fail
 refine bodyPost_ret (v:=.tuple #[.agg #[.int .i64 xw,.int .i64 xh,.int .i64 xd,.int .i64 xc,.bool xl,.slice ya xtn yb,.slice yc xcn yd,.int .i64 xrw,.int .i64 xrh,.int .i64 xrc,.int .i64 xrd,.slice ye xsn yf',.slice yg xkn yh],.bool true]) ?_ rfl (HY.out _ ⟨ya,yb,yc,yd,ye,yf',yg,yh⟩ ?_ ?_)
 ·simp[results,Tryz.results20,go_sem, *]
 ·exact (H3.out.stored _ _ _ _ _ _ _ _ _ _ _ _ _).1
 ·exact (H3.out.stored _ _ _ _ _ _ _ _ _ _ _ _ _).2
set_option maxRecDepth 100000 in
set_option maxHeartbeats 6400000 in
theorem implGray_no (p:Pic) (q:PicA) (w:World) (hdd:¬ (p.hd=2∨p.hd=4∨p.hd=8)):
  Calls Tryz.prog 20 #[pngV p q] w fun e w'=>e=.returned (.tuple #[noPng,.bool false])∧Below w.heap.size w w':=by
 obtain⟨hw,hh,hd,hc',lace,tn,T,cn,C,rw',rh,rc,rd,sn,S,kn,K⟩:=p
 obtain⟨ta,tc,ca,cc,sa,sc,ka,kc⟩:=q
 simp only [pngV]
 replace hdd:decide (hd=2∨hd=4∨hd=8)=false:=decide_eq_false hdd
 have H0:Hid (MoP w #[.int .i64 hw,.int .i64 hh,.int .i64 hd,.int .i64 hc',.bool lace,.slice ta tn tc,.slice ca cn cc,.int .i64 rw',.int .i64 rh,.int .i64 rc,.int .i64 rd,.slice sa sn sc,.slice ka kn kc] ((w.alloc (.cells #[.int .i64 hw,.int .i64 hh,.int .i64 hd,.int .i64 hc',.bool lace,.slice ta tn tc,.slice ca cn cc,.int .i64 rw',.int .i64 rh,.int .i64 rc,.int .i64 rd,.slice sa sn sc,.slice ka kn kc] 37)).alloc (.cells #[.int .i64 0,.int .i64 0,.int .i64 0,.int .i64 0,.bool false,.slice none 0 0,.slice none 0 0,.int .i64 0,.int .i64 0,.int .i64 0,.int .i64 0,.slice none 0 0,.slice none 0 0] 37))):=MoP.start w _ _ rfl
 by_cases e0:hc'=0
 rotate_left
 ·have n0:(hc' != 0)=true:=by simpa using e0
  clear e0
  go_enter Tryz.func20,Tryz.ntmps20
  go_wp2_with fail
  refine bodyPost_ret (v:=.tuple #[.agg #[.int .i64 0,.int .i64 0,.int .i64 0,.int .i64 0,.bool false,.slice none 0 0,.slice none 0 0,.int .i64 0,.int .i64 0,.int .i64 0,.int .i64 0,.slice none 0 0,.slice none 0 0],.bool false]) ?_ rfl ⟨rfl,?_⟩
  ·simp[results,Tryz.results20,go_sem, *]
  ·exact H0.out.2.2
 subst e0
 have hct:=three_any ((w.alloc (.cells #[.int .i64 hw,.int .i64 hh,.int .i64 hd,.int .i64 0,.bool lace,.slice ta tn tc,.slice ca cn cc,.int .i64 rw',.int .i64 rh,.int .i64 rc,.int .i64 rd,.slice sa sn sc,.slice ka kn kc] 37)).alloc (.cells #[.int .i64 0,.int .i64 0,.int .i64 0,.int .i64 0,.bool false,.slice none 0 0,.slice none 0 0,.int .i64 0,.int .i64 0,.int .i64 0,.int .i64 0,.slice none 0 0,.slice none 0 0] 37)) hd
 rw[show ((w.alloc (.cells #[.int .i64 hw,.int .i64 hh,.int .i64 hd,.int .i64 0,.bool lace,.slice ta tn tc,.slice ca cn cc,.int .i64 rw',.int .i64 rh,.int .i64 rc,.int .i64 rd,.slice sa sn sc,.slice ka kn kc] 37)).alloc (.cells #[.int .i64 0,.int .i64 0,.int .i64 0,.int .i64 0,.bool false,.slice none 0 0,.slice none 0 0,.int .i64 0,.int .i64 0,.int .i64 0,.int .i64 0,.slice none 0 0,.slice none 0 0] 37)).heap.size=w.heap.size+1+1 by simp,hdd] at hct
 clear hdd
 have H1:=hid_of (H0.out.called (bstart _ (.cells #[.int .i64 2,.int .i64 4,.int .i64 8] 3)))
 clear H0
 go_enter Tryz.func20,Tryz.ntmps20
 go_wp2_with fail
 refine hct.mono ?_
 rintro e w1 ⟨rfl,rfl⟩
 clear hct
 generalize ((w.alloc (.cells #[.int .i64 hw,.int .i64 hh,.int .i64 hd,.int .i64 0,.bool lace,.slice ta tn tc,.slice ca cn cc,.int .i64 rw',.int .i64 rh,.int .i64 rc,.int .i64 rd,.slice sa sn sc,.slice ka kn kc] 37)).alloc (.cells #[.int .i64 0,.int .i64 0,.int .i64 0,.int .i64 0,.bool false,.slice none 0 0,.slice none 0 0,.int .i64 0,.int .i64 0,.int .i64 0,.int .i64 0,.slice none 0 0,.slice none 0 0] 37)).alloc (.cells #[.int .i64 2,.int .i64 4,.int .i64 8] 3)=w1 at H1 ⊢
 obtain⟨⟨z0,z1,z2,z3,z4,z5,z6,z7,z8,z9,z10,z11,z12,y0,y1,y2,y3,y4,y5,y6,y7,y8,y9,y10,y11,y12⟩,yf,yl⟩:=H1.out.cells
 go_wp2_with fail
 refine bodyPost_ret (v:=.tuple #[.agg #[.int .i64 0,.int .i64 0,.int .i64 0,.int .i64 0,.bool false,.slice none 0 0,.slice none 0 0,.int .i64 0,.int .i64 0,.int .i64 0,.int .i64 0,.slice none 0 0,.slice none 0 0],.bool false]) ?_ rfl ⟨rfl,?_⟩
 ·simp[results,Tryz.results20,go_sem, *]
 ·exact H1.out.stored _ _ _ _ _ _ _ _ _ _ _ _ _
end Go.Proofs.YtkpbfmdnjnohlaaGreat
