/-
  Texts of the proof, put together.
-/
import Derived.Test.YtkpbfmdnjnohlaaGreatRd17
import Derived.Test.YtkpbfmdnjnohlaaGreatRd49
namespace Go.Proofs.YtkpbfmdnjnohlaaGreat
open Go.RowKit Go.Joins HeadMath ChunkMath
set_option maxRecDepth 100000 in
set_option maxHeartbeats 1600000 in
theorem specReduced (p:Pic) (q:PicA) (w:World) (hP:PngIn w p q) (hZ:PngSz p):
  Calls Tryz.prog 21 #[pngV p q] w (RedPost p w):=by
 obtain⟨m,hR,hm⟩:=red_some p hZ
 have HEND:Hid (∀ q2 W,PngSL W w.heap.size m q2→Below w.heap.size w W→RedPost p w (.returned (pngV m q2)) W):=fun q2 W h1 h2=>⟨m,q2,hR,rfl,h1,h2⟩
 have c0:=fun W h=>specCpy p q W h hZ
 have c1:=fun q1 W hb hL=>specSteps p q1 w.heap.size m W hb hL hZ hR
 have HP:=hid_of hP
 have M0:Hid (MoP w #[.int .i64 p.hw,.int .i64 p.hh,.int .i64 p.hd,.int .i64 p.hc,.bool p.lace,.slice q.ta p.tn q.tc,.slice q.ca p.cn q.cc,.int .i64 p.rw,.int .i64 p.rh,.int .i64 p.rc,.int .i64 p.rd,.slice q.sa p.sn q.sc,.slice q.ka p.kn q.kc] ((w.alloc (.cells #[.int .i64 p.hw,.int .i64 p.hh,.int .i64 p.hd,.int .i64 p.hc,.bool p.lace,.slice q.ta p.tn q.tc,.slice q.ca p.cn q.cc,.int .i64 p.rw,.int .i64 p.rh,.int .i64 p.rc,.int .i64 p.rd,.slice q.sa p.sn q.sc,.slice q.ka p.kn q.kc] 37)).alloc (.cells #[.int .i64 0,.int .i64 0,.int .i64 0,.int .i64 0,.bool false,.slice none 0 0,.slice none 0 0,.int .i64 0,.int .i64 0,.int .i64 0,.int .i64 0,.slice none 0 0,.slice none 0 0] 37))):=MoP.start w _ _ rfl
 clear hP hR hZ hm
 simp only [pngV] at c0 c1 HEND ⊢
 go_enter Tryz.func21,Tryz.ntmps21
 go_wp2_with fail
 refine (c0 _ (HP.out.called M0.out.2.2)).mono ?_
 rintro e w1 ⟨q1,rfl,hL,hB⟩
 have M1:=hid_of (M0.out.called hB)
 have L1:=hid_of (hL.low M0.out.2.2.size)
 clear hL hB M0 HP c0
 simp only [pngV]
 go_wp2_with fail
 refine (c1 q1 _ M1.out.2.2.size L1.out).mono ?_
 rintro e w2 ⟨q2,rfl,hL,hB⟩
 have W2:Hid (WQ w #[.int .i64 p.hw,.int .i64 p.hh,.int .i64 p.hd,.int .i64 p.hc,.bool p.lace,.slice q.ta p.tn q.tc,.slice q.ca p.cn q.cc,.int .i64 p.rw,.int .i64 p.rh,.int .i64 p.rc,.int .i64 p.rd,.slice q.sa p.sn q.sc,.slice q.ka p.kn q.kc] w.heap.size m q2 w2):=⟨M1.out.called hB,hL⟩
 clear hL hB M1 L1 c1
 obtain⟨⟨z0,z1,z2,z3,z4,z5,z6,z7,z8,z9,z10,z11,z12,y0,y1,y2,y3,y4,y5,y6,y7,y8,y9,y10,y11,y12⟩,yf,yl⟩:=W2.out.m.cells
 go_wp2_with fail
 have E5:=hid_of W2.out.stored
 refine bodyPost_ret (v:=.agg #[.int .i64 m.hw,.int .i64 m.hh,.int .i64 m.hd,.int .i64 m.hc,.bool m.lace,.slice q2.ta m.tn q2.tc,.slice q2.ca m.cn q2.cc,.int .i64 m.rw,.int .i64 m.rh,.int .i64 m.rc,.int .i64 m.rd,.slice q2.sa m.sn q2.sc,.slice q2.ka m.kn q2.kc]) ?_ rfl (HEND.out q2 _ ?_ ?_)
 ·simp[results,Tryz.results21,go_sem, *]
 ·exact (E5.out _ _ _ _ _ _ _ _ _ _ _ _ _).1
 ·exact (E5.out _ _ _ _ _ _ _ _ _ _ _ _ _).2
end Go.Proofs.YtkpbfmdnjnohlaaGreat
