/-
  Texts of the proof, put together.
-/
import Derived.Test.YtkpbfmdnjnohlaaGreatRd16
namespace Go.Proofs.YtkpbfmdnjnohlaaGreat
open Go.RowKit Go.Joins HeadMath ChunkMath
set_option maxRecDepth 100000 in
set_option maxHeartbeats 6400000 in
theorem specWith (p:Pic) (q:PicA) (col dep:Int) (ya:Option Addr) (yn yc:Nat) (xa:Option Addr) (xn xc:Nat) (w:World) (hK:KCame w q.ka p.kn p.K) (hn:p.kn≤1000):
  Calls Tryz.prog 30 #[pngV p q,.int .i64 col,.int .i64 dep,.slice ya yn yc,.slice xa xn xc] w (WithPost w p col dep ya yn yc xa xn xc):=by
 have hcp:=fun W (h:KCame W q.ka p.kn p.K)=>copyKept_any q.ka p.kn q.kc p.K W h hn
 have HKC:=hid_of hK
 clear hK hn
 obtain⟨hw,hh,hd,hc',lace,tn,T,cn,C,rw',rh,rc,rd,sn,S,kn,K⟩:=p
 obtain⟨ta,tc,ca,cc,sa,sc,ka,kc⟩:=q
 simp only [pngV] at hcp ⊢
 replace HKC:Hid (KCame w ka kn K):=HKC
 have H0:Hid (MoP w #[.int .i64 hw,.int .i64 hh,.int .i64 hd,.int .i64 hc',.bool lace,.slice ta tn tc,.slice ca cn cc,.int .i64 rw',.int .i64 rh,.int .i64 rc,.int .i64 rd,.slice sa sn sc,.slice ka kn kc] ((w.alloc (.cells #[.int .i64 hw,.int .i64 hh,.int .i64 hd,.int .i64 hc',.bool lace,.slice ta tn tc,.slice ca cn cc,.int .i64 rw',.int .i64 rh,.int .i64 rc,.int .i64 rd,.slice sa sn sc,.slice ka kn kc] 37)).alloc (.cells #[.int .i64 0,.int .i64 0,.int .i64 0,.int .i64 0,.bool false,.slice none 0 0,.slice none 0 0,.int .i64 0,.int .i64 0,.int .i64 0,.int .i64 0,.slice none 0 0,.slice none 0 0] 37))):=MoP.start w _ _ rfl
 go_enter Tryz.func30,Tryz.ntmps30
 go_wp2_with fail
 generalize (w.alloc (.cells #[.int .i64 hw,.int .i64 hh,.int .i64 hd,.int .i64 hc',.bool lace,.slice ta tn tc,.slice ca cn cc,.int .i64 rw',.int .i64 rh,.int .i64 rc,.int .i64 rd,.slice sa sn sc,.slice ka kn kc] 37)).alloc (.cells #[.int .i64 0,.int .i64 0,.int .i64 0,.int .i64 0,.bool false,.slice none 0 0,.slice none 0 0,.int .i64 0,.int .i64 0,.int .i64 0,.int .i64 0,.slice none 0 0,.slice none 0 0] 37)=w1 at H0 ⊢
 have HS0:MoP w #[.int .i64 hw,.int .i64 hh,.int .i64 hd,.int .i64 hc',.bool lace,.slice ta tn tc,.slice ca cn cc,.int .i64 rw',.int .i64 rh,.int .i64 rc,.int .i64 rd,.slice sa sn sc,.slice ka kn kc] w1.drew:=H0.out.called (bdraws (Below.refl _ _) 1)
 clear H0
 refine wp_region_held (S:=MoP w #[.int .i64 hw,.int .i64 hh,.int .i64 hd,.int .i64 hc',.bool lace,.slice ta tn tc,.slice ca cn cc,.int .i64 rw',.int .i64 rh,.int .i64 rc,.int .i64 rd,.slice sa sn sc,.slice ka kn kc]) (by kernel_rfl) ?_
 show wpAnyH _ _ _ _ _ _ _ _ w1.drew
 generalize w1.drew=u0 at HS0 ⊢
 refine zqt 0 (.pointer (some ⟨w.heap.size,0,none⟩)) rfl ?_ HS0 ?_
 ·intro w' _
  go_simp
 simp only [Act.put,zga,zgb,zsa,zsb,zsc]
 refine zqt 1 (.agg #[.int .i64 hw,.int .i64 hh,.int .i64 hd,.int .i64 hc',.bool lace]) rfl ?_ HS0 ?_
 ·intro w' hS
  obtain⟨b0,b1,b2,b3,b4,b5,b6,b7,b8,b9,b10,b11,b12⟩:=zqc hS.1; have bl:=block_lt hS.1
  go_simp
 simp only [Act.put,zga,zgb,zgc,zsa,zsb,zsc]
 refine zqt 2 (.slice xa xn xc) rfl ?_ HS0 ?_
 ·intro w' _
  go_simp
 simp only [Act.put,zga,zgb,zgc,zsa,zsb,zsc]
 refine zqt 3 (.pointer (some ⟨w.heap.size,12,none⟩)) rfl ?_ HS0 ?_
 ·intro w' _
  go_simp
 simp only [Act.put,zga,zgb,zgc,zsa,zsb,zsc]
 refine zqt 4 (.slice ka kn kc) rfl ?_ HS0 ?_
 ·intro w' hS
  obtain⟨b0,b1,b2,b3,b4,b5,b6,b7,b8,b9,b10,b11,b12⟩:=zqc hS.1; have bl:=block_lt hS.1
  go_simp
 simp only [Act.put,zga,zgb,zgc,zsa,zsb,zsc]
 refine wpAnyH_ready (rs:=[5,7]) (by kernel_rfl) (by simp) ?_
 refine AllReadyH.cons rfl (fun K1 hK=>?_) (AllReadyH.cons rfl (fun K1 hK=>?_) AllReadyH.nil)
 ·refine if_wanted (wanted_none rfl) ?_
  simp only [zga,zgb,zgc]
  go_simp
  refine (hcp _ (HKC.out.called HS0.2.2)).mono ?_
  rintro e u2 ⟨pk,ck,rfl,hS2,hB⟩
  have HT:=HS0.called hB
  refine hK.out _ _ HT (fun HS2=>?_)
  have HA3:Hid (KSL u2 w.heap.size pk kn K):=ksl_low2 hS2 HS0.2.2.size
  clear hK hB HT hS2
  refine zqt 6 (.agg #[.int .i64 hw,.int .i64 hh,.int .i64 hd,.int .i64 hc',.bool lace,.slice none 0 0,.slice xa xn xc,.int .i64 0,.int .i64 0,.int .i64 0,.int .i64 0,.slice none 0 0,.slice pk kn ck]) rfl ?_ HS2 ?_
  ·intro w' _
   go_simp
  simp only [Act.put,zga,zgb,zgc,zsa,zsb,zsc]
  refine zqr 7 rfl (fun K1 hK=>?_)
  refine if_wanted (wanted_none rfl) ?_
  simp only [zga,zgb,zgc]
  go_simp
  refine hK.out _ _ (HS2.called (bstart u2 (.cells #[.int .i64 0,.int .i64 0,.int .i64 0,.int .i64 0,.bool false,.slice none 0 0,.slice none 0 0,.int .i64 0,.int .i64 0,.int .i64 0,.int .i64 0,.slice none 0 0,.slice none 0 0] 37))) (fun HS3=>?_)
  clear hK
  have HX:Hid (WK w #[.int .i64 hw,.int .i64 hh,.int .i64 hd,.int .i64 hc',.bool lace,.slice ta tn tc,.slice ca cn cc,.int .i64 rw',.int .i64 rh,.int .i64 rc,.int .i64 rd,.slice sa sn sc,.slice ka kn kc] u2.heap.size #[.int .i64 0,.int .i64 0,.int .i64 0,.int .i64 0,.bool false,.slice none 0 0,.slice none 0 0,.int .i64 0,.int .i64 0,.int .i64 0,.int .i64 0,.slice none 0 0,.slice none 0 0] pk kn K (u2.alloc (.cells #[.int .i64 0,.int .i64 0,.int .i64 0,.int .i64 0,.bool false,.slice none 0 0,.slice none 0 0,.int .i64 0,.int .i64 0,.int .i64 0,.int .i64 0,.slice none 0 0,.slice none 0 0] 37))):=⟨HS3,heap_alloc_new u2 _,HA3.out.called (bstart u2 _),HS2.cells.2.2⟩
  generalize u2.alloc (.cells #[.int .i64 0,.int .i64 0,.int .i64 0,.int .i64 0,.bool false,.slice none 0 0,.slice none 0 0,.int .i64 0,.int .i64 0,.int .i64 0,.int .i64 0,.slice none 0 0,.slice none 0 0] 37)=u3 at HX HS3 ⊢
  clear HA3 HS2 HS3
  obtain⟨x0,x1,x2,x3,x4,x5,x6,x7,x8,x9,x10,x11,x12⟩:=zqc HX.out.x
  have xf:∀ k,u3.frozen? ⟨u2.heap.size,k,none⟩=false:=unfrozen_of_block HX.out.x
  have xl:=block_lt HX.out.x
  have H2:=hid_of ((((((((((((((HX.out.set 0 (.int .i64 hw)).set 1 (.int .i64 hh)).set 2 (.int .i64 hd)).set 3 (.int .i64 hc')).set 4 (.bool lace)).set 5 (.slice none 0 0)).set 6 (.slice xa xn xc)).set 7 (.int .i64 0)).set 8 (.int .i64 0)).set 9 (.int .i64 0)).set 10 (.int .i64 0)).set 11 (.slice none 0 0)).set 12 (.slice pk kn ck)))
  simp only [zsa,zsb,zsc] at H2
  refine zqr 8 rfl (fun K1 hK=>?_)
  refine if_wanted (wanted_none rfl) ?_
  simp only [zga,zgb,zgc]
  go_simp
  refine hK.out _ _ H2.out.m (fun HS4=>?_)
  clear hK
  refine wpAnyH_done (by kernel_rfl) ?_ _
  clear HS4 HX xf xl HS0 x0 x1 x2 x3 x4 x5 x6 x7 x8 x9 x10 x11 x12
  generalize (((((((((((((u3.setCell ⟨u2.heap.size,0,none⟩ (.int .i64 hw)).setCell ⟨u2.heap.size,1,none⟩ (.int .i64 hh)).setCell ⟨u2.heap.size,2,none⟩ (.int .i64 hd)).setCell ⟨u2.heap.size,3,none⟩ (.int .i64 hc')).setCell ⟨u2.heap.size,4,none⟩ (.bool lace)).setCell ⟨u2.heap.size,5,none⟩ (.slice none 0 0)).setCell ⟨u2.heap.size,6,none⟩ (.slice xa xn xc)).setCell ⟨u2.heap.size,7,none⟩ (.int .i64 0)).setCell ⟨u2.heap.size,8,none⟩ (.int .i64 0)).setCell ⟨u2.heap.size,9,none⟩ (.int .i64 0)).setCell ⟨u2.heap.size,10,none⟩ (.int .i64 0)).setCell ⟨u2.heap.size,11,none⟩ (.slice none 0 0)).setCell ⟨u2.heap.size,12,none⟩ (.slice pk kn ck))=w4 at H2 ⊢
  generalize u2.heap.size=X at H2 ⊢
  obtain⟨x0,x1,x2,x3,x4,x5,x6,x7,x8,x9,x10,x11,x12⟩:=zqc H2.out.x
  have xf:∀ k,w4.frozen? ⟨X,k,none⟩=false:=unfrozen_of_block H2.out.x
  have xl:=block_lt H2.out.x
  have b0:=(cell_of_block H2.out.m.1 0).trans rfl
  have b1:=(cell_of_block H2.out.m.1 1).trans rfl
  have bl:=block_lt H2.out.m.1
  have n0:¬ X=w.heap.size:=by have:=H2.out.lt; omega
  have n1:¬ X=w.heap.size+1:=by have:=H2.out.lt; omega
  have n2:¬ w.heap.size=X:=by have:=H2.out.lt; omega
  have n3:¬ w.heap.size+1=X:=by have:=H2.out.lt; omega
  obtain⟨⟨z0,z1,z2,z3,z4,z5,z6,z7,z8,z9,z10,z11,z12,y0,y1,y2,y3,y4,y5,y6,y7,y8,y9,y10,y11,y12⟩,yf,yl⟩:=H2.out.m.cells
  go_wp2_with fail
  refine bodyPost_ret (v:=.agg #[.int .i64 hw,.int .i64 hh,.int .i64 dep,.int .i64 col,.bool lace,.slice none 0 0,.slice xa xn xc,.int .i64 hw,.int .i64 hh,.int .i64 col,.int .i64 dep,.slice ya yn yc,.slice pk kn ck]) ?_ rfl ⟨pk,ck,rfl,?_,?_⟩
  ·simp[results,Tryz.results30,go_sem, *]
  ·exact ((((((((((((((((((((H2.out.set 3 _).set 2 _).set 7 _).set 8 _).set 9 _).set 10 _).set 11 _).put 0 _).put 1 _).put 2 _).put 3 _).put 4 _).put 5 _).put 6 _).put 7 _).put 8 _).put 9 _).put 10 _).put 11 _).put 12 _).k
  ·exact ((((((((((((((((((((H2.out.set 3 _).set 2 _).set 7 _).set 8 _).set 9 _).set 10 _).set 11 _).put 0 _).put 1 _).put 2 _).put 3 _).put 4 _).put 5 _).put 6 _).put 7 _).put 8 _).put 9 _).put 10 _).put 11 _).put 12 _).m.2.2
 ·refine if_wanted (wanted_none rfl) ?_
  simp only [zga,zgb,zgc]
  go_simp
  refine hK.out _ _ (HS0.called (bstart u0 (.cells #[.int .i64 0,.int .i64 0,.int .i64 0,.int .i64 0,.bool false,.slice none 0 0,.slice none 0 0,.int .i64 0,.int .i64 0,.int .i64 0,.int .i64 0,.slice none 0 0,.slice none 0 0] 37))) (fun HS1=>?_)
  clear hK
  have hblk0:BoxAt (u0.alloc (.cells #[.int .i64 0,.int .i64 0,.int .i64 0,.int .i64 0,.bool false,.slice none 0 0,.slice none 0 0,.int .i64 0,.int .i64 0,.int .i64 0,.int .i64 0,.slice none 0 0,.slice none 0 0] 37)) u0.heap.size #[.int .i64 0,.int .i64 0,.int .i64 0,.int .i64 0,.bool false,.slice none 0 0,.slice none 0 0,.int .i64 0,.int .i64 0,.int .i64 0,.int .i64 0,.slice none 0 0,.slice none 0 0]:=heap_alloc_new u0 _
  have hX1:w.heap.size+1 < u0.heap.size:=HS0.cells.2.2
  generalize u0.alloc (.cells #[.int .i64 0,.int .i64 0,.int .i64 0,.int .i64 0,.bool false,.slice none 0 0,.slice none 0 0,.int .i64 0,.int .i64 0,.int .i64 0,.int .i64 0,.slice none 0 0,.slice none 0 0] 37)=u1 at HS1 hblk0 ⊢
  refine zqr 5 rfl (fun K1 hK=>?_)
  refine if_wanted (wanted_none rfl) ?_
  simp only [zga,zgb,zgc]
  go_simp
  refine (hcp _ (HKC.out.called HS1.2.2)).mono ?_
  rintro e u2 ⟨pk,ck,rfl,hS2,hB⟩
  have HT:=HS1.called hB
  refine hK.out _ _ HT (fun HS2=>?_)
  have HA3:Hid (KSL u2 w.heap.size pk kn K):=ksl_low2 hS2 HS1.2.2.size
  have HX:Hid (WK w #[.int .i64 hw,.int .i64 hh,.int .i64 hd,.int .i64 hc',.bool lace,.slice ta tn tc,.slice ca cn cc,.int .i64 rw',.int .i64 rh,.int .i64 rc,.int .i64 rd,.slice sa sn sc,.slice ka kn kc] u0.heap.size #[.int .i64 0,.int .i64 0,.int .i64 0,.int .i64 0,.bool false,.slice none 0 0,.slice none 0 0,.int .i64 0,.int .i64 0,.int .i64 0,.int .i64 0,.slice none 0 0,.slice none 0 0] pk kn K u2):=⟨HS2,hblk0.called hB,HA3.out,hX1⟩
  clear hK hB HT hS2 hblk0 HS1 hX1 HA3
  refine zqt 6 (.agg #[.int .i64 hw,.int .i64 hh,.int .i64 hd,.int .i64 hc',.bool lace,.slice none 0 0,.slice xa xn xc,.int .i64 0,.int .i64 0,.int .i64 0,.int .i64 0,.slice none 0 0,.slice pk kn ck]) rfl ?_ HS2 ?_
  ·intro w' _
   go_simp
  simp only [Act.put,zga,zgb,zgc,zsa,zsb,zsc]
  clear HS2
  obtain⟨x0,x1,x2,x3,x4,x5,x6,x7,x8,x9,x10,x11,x12⟩:=zqc HX.out.x
  have xf:∀ k,u2.frozen? ⟨u0.heap.size,k,none⟩=false:=unfrozen_of_block HX.out.x
  have xl:=block_lt HX.out.x
  have H2:=hid_of ((((((((((((((HX.out.set 0 (.int .i64 hw)).set 1 (.int .i64 hh)).set 2 (.int .i64 hd)).set 3 (.int .i64 hc')).set 4 (.bool lace)).set 5 (.slice none 0 0)).set 6 (.slice xa xn xc)).set 7 (.int .i64 0)).set 8 (.int .i64 0)).set 9 (.int .i64 0)).set 10 (.int .i64 0)).set 11 (.slice none 0 0)).set 12 (.slice pk kn ck)))
  simp only [zsa,zsb,zsc] at H2
  refine zqr 8 rfl (fun K1 hK=>?_)
  refine if_wanted (wanted_none rfl) ?_
  simp only [zga,zgb,zgc]
  go_simp
  refine hK.out _ _ H2.out.m (fun HS4=>?_)
  clear hK
  refine wpAnyH_done (by kernel_rfl) ?_ _
  clear HS4 HX xf xl HS0 x0 x1 x2 x3 x4 x5 x6 x7 x8 x9 x10 x11 x12
  generalize (((((((((((((u2.setCell ⟨u0.heap.size,0,none⟩ (.int .i64 hw)).setCell ⟨u0.heap.size,1,none⟩ (.int .i64 hh)).setCell ⟨u0.heap.size,2,none⟩ (.int .i64 hd)).setCell ⟨u0.heap.size,3,none⟩ (.int .i64 hc')).setCell ⟨u0.heap.size,4,none⟩ (.bool lace)).setCell ⟨u0.heap.size,5,none⟩ (.slice none 0 0)).setCell ⟨u0.heap.size,6,none⟩ (.slice xa xn xc)).setCell ⟨u0.heap.size,7,none⟩ (.int .i64 0)).setCell ⟨u0.heap.size,8,none⟩ (.int .i64 0)).setCell ⟨u0.heap.size,9,none⟩ (.int .i64 0)).setCell ⟨u0.heap.size,10,none⟩ (.int .i64 0)).setCell ⟨u0.heap.size,11,none⟩ (.slice none 0 0)).setCell ⟨u0.heap.size,12,none⟩ (.slice pk kn ck))=w4 at H2 ⊢
  generalize u0.heap.size=X at H2 ⊢
  obtain⟨x0,x1,x2,x3,x4,x5,x6,x7,x8,x9,x10,x11,x12⟩:=zqc H2.out.x
  have xf:∀ k,w4.frozen? ⟨X,k,none⟩=false:=unfrozen_of_block H2.out.x
  have xl:=block_lt H2.out.x
  have b0:=(cell_of_block H2.out.m.1 0).trans rfl
  have b1:=(cell_of_block H2.out.m.1 1).trans rfl
  have bl:=block_lt H2.out.m.1
  have n0:¬ X=w.heap.size:=by have:=H2.out.lt; omega
  have n1:¬ X=w.heap.size+1:=by have:=H2.out.lt; omega
  have n2:¬ w.heap.size=X:=by have:=H2.out.lt; omega
  have n3:¬ w.heap.size+1=X:=by have:=H2.out.lt; omega
  obtain⟨⟨z0,z1,z2,z3,z4,z5,z6,z7,z8,z9,z10,z11,z12,y0,y1,y2,y3,y4,y5,y6,y7,y8,y9,y10,y11,y12⟩,yf,yl⟩:=H2.out.m.cells
  go_wp2_with fail
  refine bodyPost_ret (v:=.agg #[.int .i64 hw,.int .i64 hh,.int .i64 dep,.int .i64 col,.bool lace,.slice none 0 0,.slice xa xn xc,.int .i64 hw,.int .i64 hh,.int .i64 col,.int .i64 dep,.slice ya yn yc,.slice pk kn ck]) ?_ rfl ⟨pk,ck,rfl,?_,?_⟩
  ·simp[results,Tryz.results30,go_sem, *]
  ·exact ((((((((((((((((((((H2.out.set 3 _).set 2 _).set 7 _).set 8 _).set 9 _).set 10 _).set 11 _).put 0 _).put 1 _).put 2 _).put 3 _).put 4 _).put 5 _).put 6 _).put 7 _).put 8 _).put 9 _).put 10 _).put 11 _).put 12 _).k
  ·exact ((((((((((((((((((((H2.out.set 3 _).set 2 _).set 7 _).set 8 _).set 9 _).set 10 _).set 11 _).put 0 _).put 1 _).put 2 _).put 3 _).put 4 _).put 5 _).put 6 _).put 7 _).put 8 _).put 9 _).put 10 _).put 11 _).put 12 _).m.2.2
end Go.Proofs.YtkpbfmdnjnohlaaGreat
