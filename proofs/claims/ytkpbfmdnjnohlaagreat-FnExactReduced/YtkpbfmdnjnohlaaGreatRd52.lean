/-
  Texts of the proof, put together.
-/
import Derived.Test.YtkpbfmdnjnohlaaGreatRd17
import Derived.Test.YtkpbfmdnjnohlaaGreatRd51
namespace Go.Proofs.YtkpbfmdnjnohlaaGreat
open Go.RowKit Go.Joins HeadMath ChunkMath
set_option maxRecDepth 100000 in
set_option maxHeartbeats 3200000 in
theorem implReduced (p:Pic) (q:PicA) (w:World) (hP:PngIn w p q) (hZ:PngSz p):
  Calls Tryz.prog 22 #[pngV p q] w (RedPost p w):=by
 obtain⟨m,hR,hm⟩:=red_some p hZ
 have HEND:Hid (∀ q2 W,PngSL W w.heap.size m q2→Below w.heap.size w W→RedPost p w (.returned (pngV m q2)) W):=fun q2 W h1 h2=>⟨m,q2,hR,rfl,h1,h2⟩
 have c1:=fun W h=>implCpy p q W h hZ
 have c2:=fun q1 W hb hL=>implAll p q1 w.heap.size m W hb hL hZ hR
 have HP:=hid_of hP
 have M0:Hid (MoP w #[.int .i64 p.hw,.int .i64 p.hh,.int .i64 p.hd,.int .i64 p.hc,.bool p.lace,.slice q.ta p.tn q.tc,.slice q.ca p.cn q.cc,.int .i64 p.rw,.int .i64 p.rh,.int .i64 p.rc,.int .i64 p.rd,.slice q.sa p.sn q.sc,.slice q.ka p.kn q.kc] ((w.alloc (.cells #[.int .i64 p.hw,.int .i64 p.hh,.int .i64 p.hd,.int .i64 p.hc,.bool p.lace,.slice q.ta p.tn q.tc,.slice q.ca p.cn q.cc,.int .i64 p.rw,.int .i64 p.rh,.int .i64 p.rc,.int .i64 p.rd,.slice q.sa p.sn q.sc,.slice q.ka p.kn q.kc] 37)).alloc (.cells #[.int .i64 0,.int .i64 0,.int .i64 0,.int .i64 0,.bool false,.slice none 0 0,.slice none 0 0,.int .i64 0,.int .i64 0,.int .i64 0,.int .i64 0,.slice none 0 0,.slice none 0 0] 37))):=MoP.start w _ _ rfl
 clear hP hR hZ hm
 simp only [pngV] at c1 c2 HEND ⊢
 go_enter Tryz.func22,Tryz.ntmps22
 go_wp2_with fail
 generalize (w.alloc (.cells #[.int .i64 p.hw,.int .i64 p.hh,.int .i64 p.hd,.int .i64 p.hc,.bool p.lace,.slice q.ta p.tn q.tc,.slice q.ca p.cn q.cc,.int .i64 p.rw,.int .i64 p.rh,.int .i64 p.rc,.int .i64 p.rd,.slice q.sa p.sn q.sc,.slice q.ka p.kn q.kc] 37)).alloc (.cells #[.int .i64 0,.int .i64 0,.int .i64 0,.int .i64 0,.bool false,.slice none 0 0,.slice none 0 0,.int .i64 0,.int .i64 0,.int .i64 0,.int .i64 0,.slice none 0 0,.slice none 0 0] 37)=w1 at M0 ⊢
 have HS0:MoP w #[.int .i64 p.hw,.int .i64 p.hh,.int .i64 p.hd,.int .i64 p.hc,.bool p.lace,.slice q.ta p.tn q.tc,.slice q.ca p.cn q.cc,.int .i64 p.rw,.int .i64 p.rh,.int .i64 p.rc,.int .i64 p.rd,.slice q.sa p.sn q.sc,.slice q.ka p.kn q.kc] w1.drew:=M0.out.called (bdraws (Below.refl _ _) 1)
 clear M0
 refine wp_region_held (S:=MoP w #[.int .i64 p.hw,.int .i64 p.hh,.int .i64 p.hd,.int .i64 p.hc,.bool p.lace,.slice q.ta p.tn q.tc,.slice q.ca p.cn q.cc,.int .i64 p.rw,.int .i64 p.rh,.int .i64 p.rc,.int .i64 p.rd,.slice q.sa p.sn q.sc,.slice q.ka p.kn q.kc]) (by kernel_rfl) ?_
 show wpAnyH _ _ _ _ _ _ _ _ w1.drew
 generalize w1.drew=u0 at HS0 ⊢
 refine zqt 1 (.agg #[.int .i64 p.hw,.int .i64 p.hh,.int .i64 p.hd,.int .i64 p.hc,.bool p.lace,.slice q.ta p.tn q.tc,.slice q.ca p.cn q.cc,.int .i64 p.rw,.int .i64 p.rh,.int .i64 p.rc,.int .i64 p.rd,.slice q.sa p.sn q.sc,.slice q.ka p.kn q.kc]) rfl ?_ HS0 ?_
 ·intro w' hS
  obtain⟨b0,b1,b2,b3,b4,b5,b6,b7,b8,b9,b10,b11,b12⟩:=zqc hS.1; have bl:=block_lt hS.1
  go_simp
 simp only [Act.put,zga,zgb,zgc,zsa,zsb,zsc]
 refine zqr 0 rfl (fun K1 hK=>?_)
 refine if_wanted (wanted_none rfl) ?_
 simp only [zga,zgb]
 go_simp
 refine (implWays _).mono ?_
 rintro e u1 ⟨rfl,hB⟩
 refine hK.out _ _ (HS0.called hB) (fun HS1=>?_)
 clear hK hB HS0
 refine zqr 2 rfl (fun K1 hK=>?_)
 refine if_wanted (wanted_none rfl) ?_
 simp only [zga,zgb,zgc]
 go_simp
 refine (c1 _ (HP.out.called HS1.2.2)).mono ?_
 rintro e u2 ⟨q1,rfl,hL,hB⟩
 have L1:=hid_of (hL.low HS1.2.2.size)
 refine hK.out _ _ (HS1.called hB) (fun HS2=>?_)
 clear hK hL hB HS1
 refine zqr 3 rfl (fun K1 hK=>?_)
 refine if_wanted (wanted_none rfl) ?_
 simp only [zga,zgb,zgc]
 go_simp
 refine (c2 q1 _ HS2.2.2.size L1.out).mono ?_
 rintro e u3 ⟨q2,rfl,hL,hB⟩
 have W3:Hid (WQ w #[.int .i64 p.hw,.int .i64 p.hh,.int .i64 p.hd,.int .i64 p.hc,.bool p.lace,.slice q.ta p.tn q.tc,.slice q.ca p.cn q.cc,.int .i64 p.rw,.int .i64 p.rh,.int .i64 p.rc,.int .i64 p.rd,.slice q.sa p.sn q.sc,.slice q.ka p.kn q.kc] w.heap.size m q2 u3):=⟨HS2.called hB,hL⟩
 refine hK.out _ _ W3.out.m (fun HS3=>?_)
 clear hK hL hB HS2 L1 HS3
 obtain⟨⟨z0,z1,z2,z3,z4,z5,z6,z7,z8,z9,z10,z11,z12,y0,y1,y2,y3,y4,y5,y6,y7,y8,y9,y10,y11,y12⟩,yf,yl⟩:=W3.out.m.cells
 refine zqr 4 rfl (fun K1 hK=>?_)
 refine if_wanted (wanted_none rfl) ?_
 simp only [zga,zgb,zgc]
 go_simp
 have E4:=hid_of (((((((((((((W3.out.put 0 (.int .i64 m.hw)).put 1 (.int .i64 m.hh)).put 2 (.int .i64 m.hd)).put 3 (.int .i64 m.hc)).put 4 (.bool m.lace)).put 5 (.slice q2.ta m.tn q2.tc)).put 6 (.slice q2.ca m.cn q2.cc)).put 7 (.int .i64 m.rw)).put 8 (.int .i64 m.rh)).put 9 (.int .i64 m.rc)).put 10 (.int .i64 m.rd)).put 11 (.slice q2.sa m.sn q2.sc)).put 12 (.slice q2.ka m.kn q2.kc))
 refine hK.out _ _ E4.out.m (fun HS4=>?_)
 clear hK HS4
 refine wpAnyH_done (by kernel_rfl) ?_ _
 go_wp2_with fail
 refine bodyPost_ret (v:=.agg #[.int .i64 m.hw,.int .i64 m.hh,.int .i64 m.hd,.int .i64 m.hc,.bool m.lace,.slice q2.ta m.tn q2.tc,.slice q2.ca m.cn q2.cc,.int .i64 m.rw,.int .i64 m.rh,.int .i64 m.rc,.int .i64 m.rd,.slice q2.sa m.sn q2.sc,.slice q2.ka m.kn q2.kc]) ?_ rfl (HEND.out q2 _ ?_ ?_)
 ·simp[results,Tryz.results22,go_sem, *]
 ·exact E4.out.l
 ·exact E4.out.m.2.2
end Go.Proofs.YtkpbfmdnjnohlaaGreat
