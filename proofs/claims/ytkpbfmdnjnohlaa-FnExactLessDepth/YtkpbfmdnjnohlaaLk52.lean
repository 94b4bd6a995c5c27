/-
  Texts of the proof, put together.
-/
import Derived.Test.YtkpbfmdnjnohlaaLk51
namespace Go.Proofs.Ytkpbfmdnjnohlaa
open Go.RowKit Go.Joins OutMath PutMath RastMath HeadMath ChunkMath
set_option maxRecDepth 100000 in
set_option maxHeartbeats 6400000 in
theorem implLessDepth (p:Pic) (q:PicA) (w:World) (hP:PngIn w p q) (hZ:PngSz p):
  Calls Try.prog 18 #[pngV p q] w (LessPost ((MayR p∧p.hd=16)∧HalfR p (257:Nat)) (halfP p 8 (257:Nat)) w):=by
 have hok:=fun W h=>implMay p q W h hZ
 have hha:=fun W h hR hd=>implHalved p q 8 257 W h hZ hR hd (by omega)
 have HNo:Hid (¬ ((MayR p∧p.hd=16)∧HalfR p (257:Nat))→∀ W,Below w.heap.size w W→LessPost ((MayR p∧p.hd=16)∧HalfR p (257:Nat)) (halfP p 8 (257:Nat)) w (.returned (.tuple #[.agg #[.int .i64 0,.int .i64 0,.int .i64 0,.int .i64 0,.bool false,.slice none 0 0,.slice none 0 0,.int .i64 0,.int .i64 0,.int .i64 0,.int .i64 0,.slice none 0 0,.slice none 0 0],.bool false])) W):=fun h W b=>.inl ⟨h,rfl,b⟩
 have HYes:Hid (((MayR p∧p.hd=16)∧HalfR p (257:Nat))→∀ (W:World) (q':PicA),PngSL W w.heap.size (halfP p 8 (257:Nat)) q'→Below w.heap.size w W→LessPost ((MayR p∧p.hd=16)∧HalfR p (257:Nat)) (halfP p 8 (257:Nat)) w (.returned (.tuple #[pngV (halfP p 8 (257:Nat)) q',.bool true])) W):=fun h W q' h1 h6=>.inr ⟨h,q',rfl,h1,h6⟩
 have HMR:Hid (MayR p→PngR p):=fun h=>h.1
 have HP:=hid_of hP
 clear hP hZ
 obtain⟨p0,hp0⟩:∃ p0,p0=p:=⟨_,rfl⟩
 obtain⟨hw,hh,hd,hc',lace,tn,T,cn,C,rw',rh,rc,rd,sn,S,kn,K⟩:=p
 obtain⟨ta,tc,ca,cc,sa,sc,ka,kc⟩:=q
 simp only [pngV] at hok hha HYes HNo ⊢
 rw[← hp0] at hok hha HP HYes HNo HMR ⊢
 clear hp0
 generalize halfP p0 8 (257:Nat)=r at hha HYes HNo ⊢
 obtain⟨xw,xh,xd,xc,xl,xtn,XT,xcn,XC,xrw,xrh,xrc,xrd,xsn,XS,xkn,XK⟩:=r
 simp only at hha HYes
 have H0:Hid (MoP w #[.int .i64 hw,.int .i64 hh,.int .i64 hd,.int .i64 hc',.bool lace,.slice ta tn tc,.slice ca cn cc,.int .i64 rw',.int .i64 rh,.int .i64 rc,.int .i64 rd,.slice sa sn sc,.slice ka kn kc] ((w.alloc (.cells #[.int .i64 hw,.int .i64 hh,.int .i64 hd,.int .i64 hc',.bool lace,.slice ta tn tc,.slice ca cn cc,.int .i64 rw',.int .i64 rh,.int .i64 rc,.int .i64 rd,.slice sa sn sc,.slice ka kn kc] 41)).alloc (.cells #[.int .i64 0,.int .i64 0,.int .i64 0,.int .i64 0,.bool false,.slice none 0 0,.slice none 0 0,.int .i64 0,.int .i64 0,.int .i64 0,.int .i64 0,.slice none 0 0,.slice none 0 0] 41))):=MoP.start w _ _ rfl
 by_cases e16:hd=16
 rotate_left
 ·have n16:(hd != 16)=true:=by simpa using e16
  have HN:=hid_of (HNo.out fun h=>e16 h.1.2)
  clear e16 HYes hha hok
  go_enter Try.func18,Try.ntmps18
  go_wp2_with fail
  refine bodyPost_ret (v:=.tuple #[.agg #[.int .i64 0,.int .i64 0,.int .i64 0,.int .i64 0,.bool false,.slice none 0 0,.slice none 0 0,.int .i64 0,.int .i64 0,.int .i64 0,.int .i64 0,.slice none 0 0,.slice none 0 0],.bool false]) ?_ rfl (HN.out _ ?_)
  ·simp[results,Try.results18,go_sem, *]
  ·exact H0.out.2.2
 subst e16
 go_enter Try.func18,Try.ntmps18
 go_wp2_with fail
 refine (hok _ (HP.out.called H0.out.2.2)).mono ?_
 rintro e w1 ⟨b,rfl,hb,hB⟩
 have H1:=hid_of (H0.out.called hB)
 have HB:=hid_of hb
 clear hB hb H0 hok
 cases b
 ·have HN:=hid_of (HNo.out fun h=>by have:=HB.out.mpr h.1.1; cases this)
  obtain⟨⟨z0,z1,z2,z3,z4,z5,z6,z7,z8,z9,z10,z11,z12,y0,y1,y2,y3,y4,y5,y6,y7,y8,y9,y10,y11,y12⟩,yf,yl⟩:=H1.out.cells
  clear HYes hha 
  go_wp2_with fail
  refine bodyPost_ret (v:=.tuple #[.agg #[.int .i64 0,.int .i64 0,.int .i64 0,.int .i64 0,.bool false,.slice none 0 0,.slice none 0 0,.int .i64 0,.int .i64 0,.int .i64 0,.int .i64 0,.slice none 0 0,.slice none 0 0],.bool false]) ?_ rfl (HN.out _ ?_)
  ·simp[results,Try.results18,go_sem, *]
  ·exact H1.out.stored _ _ _ _ _ _ _ _ _ _ _ _ _
 have HM:=hid_of (HB.out.mp rfl)
 have hha1:=fun W h=>hha W h (HMR.out HM.out) (by rfl)
 clear HB hha
 have la:=block_lt H1.out.1
 have a0:=(cell_of_block H1.out.1 0).trans rfl
 have a1:=(cell_of_block H1.out.1 1).trans rfl
 have a2:=(cell_of_block H1.out.1 2).trans rfl
 have a3:=(cell_of_block H1.out.1 3).trans rfl
 have a4:=(cell_of_block H1.out.1 4).trans rfl
 have a5:=(cell_of_block H1.out.1 5).trans rfl
 have a6:=(cell_of_block H1.out.1 6).trans rfl
 have a7:=(cell_of_block H1.out.1 7).trans rfl
 have a8:=(cell_of_block H1.out.1 8).trans rfl
 have a9:=(cell_of_block H1.out.1 9).trans rfl
 have a10:=(cell_of_block H1.out.1 10).trans rfl
 have a11:=(cell_of_block H1.out.1 11).trans rfl
 have a12:=(cell_of_block H1.out.1 12).trans rfl
 go_wp2_with fail
 clear la a0 a1 a2 a3 a4 a5 a6 a7 a8 a9 a10 a11 a12
 refine (hha1 _ (HP.out.called H1.out.2.2)).mono ?_
 rintro e w2 (⟨hn,rfl,hB⟩ | ⟨hy,q',rfl,hl,hB⟩)
 ·have H2:=hid_of (H1.out.called hB)
  have HN:=hid_of (HNo.out fun h=>hn h.2)
  clear hB hn H1 HYes hha1
  obtain⟨⟨z0,z1,z2,z3,z4,z5,z6,z7,z8,z9,z10,z11,z12,y0,y1,y2,y3,y4,y5,y6,y7,y8,y9,y10,y11,y12⟩,yf,yl⟩:=H2.out.cells
  unfold noPng
  go_wp2_with fail
  refine bodyPost_ret (v:=.tuple #[.agg #[.int .i64 0,.int .i64 0,.int .i64 0,.int .i64 0,.bool false,.slice none 0 0,.slice none 0 0,.int .i64 0,.int .i64 0,.int .i64 0,.int .i64 0,.slice none 0 0,.slice none 0 0],.bool false]) ?_ rfl (HN.out _ ?_)
  ·simp[results,Try.results18,go_sem, *]
  ·exact H2.out.stored _ _ _ _ _ _ _ _ _ _ _ _ _
 have H2:Hid (WP w #[.int .i64 hw,.int .i64 hh,.int .i64 16,.int .i64 hc',.bool lace,.slice ta tn tc,.slice ca cn cc,.int .i64 rw',.int .i64 rh,.int .i64 rc,.int .i64 rd,.slice sa sn sc,.slice ka kn kc] ⟨xw,xh,xd,xc,xl,xtn,XT,xcn,XC,xrw,xrh,xrc,xrd,xsn,XS,xkn,XK⟩ q' w2):=⟨H1.out.called hB,hl.low H1.out.2.2.size⟩
 have HY:=hid_of (HYes.out ⟨⟨HM.out,by simp⟩,hy⟩)
 clear hB hl hy H1 HYes HNo HM hha1
 obtain⟨ya,yb,yc,yd,ye,yf',yg,yh⟩:=q'
 simp only [pngV]
 obtain⟨⟨z0,z1,z2,z3,z4,z5,z6,z7,z8,z9,z10,z11,z12,y0,y1,y2,y3,y4,y5,y6,y7,y8,y9,y10,y11,y12⟩,yf,yl⟩:=H2.out.m.cells
 go_wp2_with fail
 refine bodyPost_ret (v:=.tuple #[.agg #[.int .i64 xw,.int .i64 xh,.int .i64 xd,.int .i64 xc,.bool xl,.slice ya xtn yb,.slice yc xcn yd,.int .i64 xrw,.int .i64 xrh,.int .i64 xrc,.int .i64 xrd,.slice ye xsn yf',.slice yg xkn yh],.bool true]) ?_ rfl (HY.out _ ⟨ya,yb,yc,yd,ye,yf',yg,yh⟩ ?_ ?_)
 ·simp[results,Try.results18,go_sem, *]
 ·exact (H2.out.stored _ _ _ _ _ _ _ _ _ _ _ _ _).1
 ·exact (H2.out.stored _ _ _ _ _ _ _ _ _ _ _ _ _).2
end Go.Proofs.Ytkpbfmdnjnohlaa
