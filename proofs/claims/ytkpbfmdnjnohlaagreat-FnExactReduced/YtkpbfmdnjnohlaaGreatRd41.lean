/-
  Texts of the proof, put together.
-/
import Derived.Test.YtkpbfmdnjnohlaaGreatRd35
namespace Go.Proofs.YtkpbfmdnjnohlaaGreat
open Go.RowKit Go.Joins OutMath PutMath RastMath HeadMath ChunkMath
theorem withoutColor_any (c:Int) (w:World):Calls Tryz.prog 54 #[.int .i64 c] w fun e w'=>e=.returned (.tuple #[.int .i64 (if c=2 then 0 else if c=6 then 4 else 0),.bool (decide (c=2∨c=6))])∧w'=w:=by
 by_cases h4:c=2
 ·subst h4
  go_enter Tryz.func54,Tryz.ntmps54
  go_wp2_with fail
  go_ret2
  exact⟨rfl,rfl⟩
 by_cases h6:c=6
 ·subst h6
  go_enter Tryz.func54,Tryz.ntmps54
  go_wp2_with fail
  go_ret2
  exact⟨rfl,rfl⟩
 ·rw[if_neg h4,if_neg h6,decide_eq_false (by omega:¬ (c=2∨c=6))]
  have n4:(c == 2)=false:=by simpa using h4
  have n6:(c == 6)=false:=by simpa using h6
  clear h4 h6
  go_enter Tryz.func54,Tryz.ntmps54
  go_wp2_with fail
  go_ret2
  exact⟨rfl,rfl⟩
set_option maxRecDepth 100000 in
set_option maxHeartbeats 6400000 in
theorem implCol_2_0 (p:Pic) (q:PicA) (w:World) (hP:PngIn w p q) (hZ:PngSz p) (hcc:p.hc=2) (hcn:p.cn=0):
  Calls Tryz.prog 16 #[pngV p q] w (LessPost (MayR p∧(∀ k,k < pixN p→GryR 3 p.S k)∧∀ k,k < 0→GryR 3 p.C k) (withP p 0 p.hd (pixN p) (tkF 3 2 1 p.S) 0 (tkF 3 2 1 p.C)) w):=by
 have hok:=fun W h=>implMay p q W h hZ
 have hch:=fun W=>implChannels 2 W
 rw[show chan 2=((3:Nat):Int) by decide] at hch
 have hwc:=fun W=>withoutColor_any 2 W
 have hun:=fun W (h:PngIn W p q) (hR:PngR p) (hs:p.sn=3 * pixN p)=>gry_came q.sa 3 1 (pixN p) q.sc p.S W rfl (by omega) (by omega) (by have:=(png_n hR).2.2; omega) (by rw [← hs]; exact h.capped.1) (by rw [← hs]; exact h.s)
 have huc:=fun W (h:PngIn W p q)=>gry_came q.ca 3 1 0 q.cc p.C W rfl (by omega) (by omega) (by omega) (by omega) (by have:=h.c; rw [hcn] at this; exact this)
 have hr:=fun ya yn yc W (h:PngIn W p q) (hR:PngR p)=>implRetold p q 0 p.hd ya yn yc W h.k (by have:=(png_fits hR).2.2.2.2; omega) hZ.m
 have HNo:Hid (¬ (MayR p∧(∀ k,k < pixN p→GryR 3 p.S k)∧∀ k,k < 0→GryR 3 p.C k)→∀ W,Below w.heap.size w W→LessPost (MayR p∧(∀ k,k < pixN p→GryR 3 p.S k)∧∀ k,k < 0→GryR 3 p.C k) (withP p 0 p.hd (pixN p) (tkF 3 2 1 p.S) 0 (tkF 3 2 1 p.C)) w (.returned (.tuple #[.agg #[.int .i64 0,.int .i64 0,.int .i64 0,.int .i64 0,.bool false,.slice none 0 0,.slice none 0 0,.int .i64 0,.int .i64 0,.int .i64 0,.int .i64 0,.slice none 0 0,.slice none 0 0],.bool false])) W):=fun h W b=>.inl ⟨h,rfl,b⟩
 have HYes:Hid ((MayR p∧(∀ k,k < pixN p→GryR 3 p.S k)∧∀ k,k < 0→GryR 3 p.C k)→∀ (W:World) (a xa ka:Option Addr) (c xc kc:Nat),PngSL W w.heap.size (withP p 0 p.hd (pixN p) (tkF 3 2 1 p.S) 0 (tkF 3 2 1 p.C)) ⟨none,0,xa,xc,a,c,ka,kc⟩→Below w.heap.size w W→LessPost (MayR p∧(∀ k,k < pixN p→GryR 3 p.S k)∧∀ k,k < 0→GryR 3 p.C k) (withP p 0 p.hd (pixN p) (tkF 3 2 1 p.S) 0 (tkF 3 2 1 p.C)) w (.returned (.tuple #[.agg #[.int .i64 p.hw,.int .i64 p.hh,.int .i64 p.hd,.int .i64 0,.bool p.lace,.slice none 0 0,.slice xa 0 xc,.int .i64 p.hw,.int .i64 p.hh,.int .i64 0,.int .i64 p.hd,.slice a (pixN p) c,.slice ka p.kn kc],.bool true])) W):=fun h W a xa ka c xc kc h1 h6=>.inr ⟨h,_,rfl,h1,h6⟩
 have HMk:Hid (∀ (W:World) (a xa ka:Option Addr) (c xc kc:Nat),SL W w.heap.size a (pixN p) c (tkF 3 2 1 p.S)→SL W w.heap.size xa 0 xc (tkF 3 2 1 p.C)→KSL W w.heap.size ka p.kn p.K→(0=0∨pixN p=0∨xa≠a)→pixN p≤c∧c≤maxLen→PngSL W w.heap.size (withP p 0 p.hd (pixN p) (tkF 3 2 1 p.S) 0 (tkF 3 2 1 p.C)) ⟨none,0,xa,xc,a,c,ka,kc⟩):=fun W a xa ka c xc kc h1 h2 h3 h4 h5=>⟨.inl rfl,h2,h1,h3,h4,h5⟩
 have HMR:Hid (MayR p→PngR p∧p.sn=3 * pixN p∧pixN p≤576):=fun h=>⟨h.1,by have:=(png_n h.1).1; rw [hcc,show chanN 2=3 by decide] at this; exact this,(png_n h.1).2.2⟩
 have HP:=hid_of hP
 clear hP hZ
 obtain⟨N,hNN⟩:∃ N,N=pixN p:=⟨_,rfl⟩
 rw[← hNN] at hun HNo HYes HMk HMR ⊢
 obtain⟨p0,hp0⟩:∃ p0,p0=p:=⟨_,rfl⟩
 obtain⟨hw,hh,hd,hc',lace,tn,T,cn,C,rw',rh,rc,rd,sn,S,kn,K⟩:=p
 obtain⟨ta,tc,ca,cc,sa,sc,ka,kc⟩:=q
 simp only [pngV] at hok hun huc hr HYes HNo HMR HMk ⊢
 replace hcc:hc'=2:=hcc
 replace hcn:cn=0:=hcn
 have HE:Hid (p0.kn=kn∧p0.K=K∧p0.hw=hw∧p0.hh=hh∧p0.lace=lace):=by rw [hp0]; exact⟨rfl,rfl,rfl,rfl,rfl⟩
 rw[← hp0] at hok hun huc hr HP HYes HNo HMR HMk ⊢
 clear hp0 hNN
 subst hcc hcn
 have H0:Hid (RT w #[.int .i64 hw,.int .i64 hh,.int .i64 hd,.int .i64 2,.bool lace,.slice ta tn tc,.slice ca 0 cc,.int .i64 rw',.int .i64 rh,.int .i64 rc,.int .i64 rd,.slice sa sn sc,.slice ka kn kc] #[.int .i64 hw,.int .i64 hh,.int .i64 hd,.int .i64 2,.bool lace] (((w.alloc (.cells #[.int .i64 hw,.int .i64 hh,.int .i64 hd,.int .i64 2,.bool lace,.slice ta tn tc,.slice ca 0 cc,.int .i64 rw',.int .i64 rh,.int .i64 rc,.int .i64 rd,.slice sa sn sc,.slice ka kn kc] 37)).alloc (.cells #[.int .i64 0,.int .i64 0,.int .i64 0,.int .i64 0,.bool false,.slice none 0 0,.slice none 0 0,.int .i64 0,.int .i64 0,.int .i64 0,.int .i64 0,.slice none 0 0,.slice none 0 0] 37)).alloc (.cells #[.int .i64 hw,.int .i64 hh,.int .i64 hd,.int .i64 2,.bool lace] 32))):=RT.start w _ _ _ rfl
 go_enter Tryz.func16,Tryz.ntmps16
 go_wp2_with fail
 refine (hwc _).mono ?_
 rintro e w1 ⟨rfl,rfl⟩
 clear hwc
 generalize ((w.alloc (.cells #[.int .i64 hw,.int .i64 hh,.int .i64 hd,.int .i64 2,.bool lace,.slice ta tn tc,.slice ca 0 cc,.int .i64 rw',.int .i64 rh,.int .i64 rc,.int .i64 rd,.slice sa sn sc,.slice ka kn kc] 37)).alloc (.cells #[.int .i64 0,.int .i64 0,.int .i64 0,.int .i64 0,.bool false,.slice none 0 0,.slice none 0 0,.int .i64 0,.int .i64 0,.int .i64 0,.int .i64 0,.slice none 0 0,.slice none 0 0] 37)).alloc (.cells #[.int .i64 hw,.int .i64 hh,.int .i64 hd,.int .i64 2,.bool lace] 32)=w1 at H0 ⊢
 have la:=block_lt H0.out.1.1
 obtain⟨a0,a1,a2,a3,a4,a5,a6,a7,a8,a9,a10,a11,a12⟩:=zqc H0.out.1.1
 go_wp2_with fail
 clear la a0 a1 a2 a3 a4 a5 a6 a7 a8 a9 a10 a11 a12
 refine (hok _ (HP.out.called H0.out.1.2.2)).mono ?_
 rintro e w2 ⟨b,rfl,hb,hB⟩
 have H1:=hid_of (H0.out.called hB)
 have HB:=hid_of hb
 clear hB hb H0 hok
 cases b
 ·have HN:=hid_of (HNo.out fun h=>by have:=HB.out.mpr h.1; cases this)
  obtain⟨⟨z0,z1,z2,z3,z4,z5,z6,z7,z8,z9,z10,z11,z12,y0,y1,y2,y3,y4,y5,y6,y7,y8,y9,y10,y11,y12⟩,yf,yl⟩:=H1.out.1.cells
  clear HYes HMk hun huc hr hch HB
  go_wp2_with fail
  refine bodyPost_ret (v:=.tuple #[.agg #[.int .i64 0,.int .i64 0,.int .i64 0,.int .i64 0,.bool false,.slice none 0 0,.slice none 0 0,.int .i64 0,.int .i64 0,.int .i64 0,.int .i64 0,.slice none 0 0,.slice none 0 0],.bool false]) ?_ rfl (HN.out _ ?_)
  ·simp[results,Tryz.results16,go_sem, *]
  ·exact H1.out.1.stored _ _ _ _ _ _ _ _ _ _ _ _ _ 
 have HM:=hid_of (HB.out.mp rfl)
 obtain⟨hR,hsn,hN576⟩:=HMR.out HM.out
 have hun1:=fun W h=>hun W h hR hsn
 have hr1:=fun ya yn yc W h=>hr ya yn yc W h hR
 clear HB HMR hun hr hR
 subst hsn
 go_wp2_with fail
 have HS0:RT w #[.int .i64 hw,.int .i64 hh,.int .i64 hd,.int .i64 2,.bool lace,.slice ta tn tc,.slice ca 0 cc,.int .i64 rw',.int .i64 rh,.int .i64 rc,.int .i64 rd,.slice sa (3 * N) sc,.slice ka kn kc] #[.int .i64 hw,.int .i64 hh,.int .i64 hd,.int .i64 2,.bool lace] w2.drew:=H1.out.called (bdraws (Below.refl _ _) 1)
 clear H1
 refine wp_region_held (S:=RT w #[.int .i64 hw,.int .i64 hh,.int .i64 hd,.int .i64 2,.bool lace,.slice ta tn tc,.slice ca 0 cc,.int .i64 rw',.int .i64 rh,.int .i64 rc,.int .i64 rd,.slice sa (3 * N) sc,.slice ka kn kc] #[.int .i64 hw,.int .i64 hh,.int .i64 hd,.int .i64 2,.bool lace]) (by kernel_rfl) ?_
 show wpAnyH _ _ _ _ _ _ _ _ w2.drew
 generalize w2.drew=u0 at HS0 ⊢
 refine zqt 0 (.pointer (some ⟨w.heap.size,7,none⟩)) rfl ?_ HS0 ?_
 ·intro w' _
  go_simp
 simp only [Act.put,zga,zgb,zsa,zsb,zsc]
 refine zqt 1 (.pointer (some ⟨w.heap.size,11,none⟩)) rfl ?_ HS0 ?_
 ·intro w' _
  go_simp
 simp only [Act.put,zga,zgb,zgc,zsa,zsb,zsc]
 refine zqt 2 (.slice sa (3 * N) sc) rfl ?_ HS0 ?_
 ·intro w' hS
  obtain⟨b0,b1,b2,b3,b4,b5,b6,b7,b8,b9,b10,b11,b12⟩:=zqc hS.1.1; have bl:=block_lt hS.1.1
  go_simp
 simp only [Act.put,zga,zgb,zgc,zsa,zsb,zsc]
 refine zqt 3 (.pointer (some ⟨w.heap.size+1+1,3,none⟩)) rfl ?_ HS0 ?_
 ·intro w' _
  go_simp
 simp only [Act.put,zga,zgb,zgc,zsa,zsb,zsc]
 refine zqt 4 (.int .i64 2) rfl ?_ HS0 ?_
 ·intro w' hS
  obtain⟨b0,b1,b2,b3,b4⟩:=zqf hS.2; have bl:=block_lt hS.2
  go_simp
 simp only [Act.put,zga,zgb,zgc,zsa,zsb,zsc]
 refine zqr 5 rfl (fun K1 hK=>?_)
 refine if_wanted (wanted_none rfl) ?_
 simp only [zga,zgb,zgc]
 go_simp
 refine (hch _).mono ?_
 rintro e u1 ⟨rfl,q⟩
 obtain rfl:=q
 refine hK.out _ _ HS0 (fun _=>?_)
 clear hK
 refine zqr 6 rfl (fun K1 hK=>?_)
 refine if_wanted (wanted_none rfl) ?_
 simp only [zga,zgb,zgc]
 go_simp
 refine (hun1 _ (HP.out.called HS0.1.2.2)).mono ?_
 rintro e u2 ⟨ok,a1,m1,c1,rfl,hok,hy,hB⟩
 have HT:=HS0.called hB
 refine hK.out _ _ HT (fun HS1=>?_)
 have HOK:=hid_of hok
 have HYY:Hid (ok=true→N=m1∧SL u2 w.heap.size a1 (N) c1 (tkF 3 2 1 S)∧N≤c1∧c1≤maxLen):=fun h=>by
  have q:=hy h
  rw[Nat.one_mul] at q
  exact⟨q.1.symm,sl_low2 q.2.1 HS0.1.2.2.size,q.2.2⟩
 clear hK hB HT hok hy hun1
 refine zqt 7 (.tuple #[.slice a1 m1 c1,.bool ok]) rfl ?_ HS1 ?_
 ·intro w' _
  go_simp
 simp only [Act.put,zga,zgb,zgc,zsa,zsb,zsc]
 refine zqt 8 (.slice a1 m1 c1) rfl ?_ HS1 ?_
 ·intro w' _
  go_simp
 simp only [Act.put,zga,zgb,zgc,zsa,zsb,zsc]
 refine zqt 9 (.bool ok) rfl ?_ HS1 ?_
 ·intro w' _
  go_simp
 simp only [Act.put,zga,zgb,zgc,zsa,zsb,zsc]
 refine zqt 10 (.slice a1 m1 c1) rfl ?_ HS1 ?_
 ·intro w' _
  go_simp
 simp only [Act.put,zga,zgb,zgc,zsa,zsb,zsc]
 refine zqt 11 (.bool ok) rfl ?_ HS1 ?_
 ·intro w' _
  go_simp
 simp only [Act.put,zga,zgb,zgc,zsa,zsb,zsc]
 refine wpAnyH_done (by kernel_rfl) ?_ _
 have H2:=hid_of HS1
 clear HS1 HS0
 go_wp2_with fail
 have HS0:RT w #[.int .i64 hw,.int .i64 hh,.int .i64 hd,.int .i64 2,.bool lace,.slice ta tn tc,.slice ca 0 cc,.int .i64 rw',.int .i64 rh,.int .i64 rc,.int .i64 rd,.slice sa (3 * N) sc,.slice ka kn kc] #[.int .i64 hw,.int .i64 hh,.int .i64 hd,.int .i64 2,.bool lace] u2.drew:=H2.out.called (bdraws (Below.refl _ _) 1)
 have HYY2:Hid (ok=true→N=m1∧SL u2.drew w.heap.size a1 (N) c1 (tkF 3 2 1 S)∧N≤c1∧c1≤maxLen):=fun h=>⟨(HYY.out h).1,(HYY.out h).2.1.called (bdraws (Below.refl _ _) 1),(HYY.out h).2.2⟩
 clear H2 HYY
 refine wp_region_held (S:=RT w #[.int .i64 hw,.int .i64 hh,.int .i64 hd,.int .i64 2,.bool lace,.slice ta tn tc,.slice ca 0 cc,.int .i64 rw',.int .i64 rh,.int .i64 rc,.int .i64 rd,.slice sa (3 * N) sc,.slice ka kn kc] #[.int .i64 hw,.int .i64 hh,.int .i64 hd,.int .i64 2,.bool lace]) (by kernel_rfl) ?_
 show wpAnyH _ _ _ _ _ _ _ _ u2.drew
 generalize u2.drew=u3 at HS0 HYY2 ⊢
 refine zqt 0 (.pointer (some ⟨w.heap.size,6,none⟩)) rfl ?_ HS0 ?_
 ·intro w' _
  go_simp
 simp only [Act.put,zga,zgb,zsa,zsb,zsc]
 refine zqt 1 (.slice ca 0 cc) rfl ?_ HS0 ?_
 ·intro w' hS
  obtain⟨b0,b1,b2,b3,b4,b5,b6,b7,b8,b9,b10,b11,b12⟩:=zqc hS.1.1; have bl:=block_lt hS.1.1
  go_simp
 simp only [Act.put,zga,zgb,zgc,zsa,zsb,zsc]
 refine zqt 2 (.pointer (some ⟨w.heap.size+1+1,3,none⟩)) rfl ?_ HS0 ?_
 ·intro w' _
  go_simp
 simp only [Act.put,zga,zgb,zgc,zsa,zsb,zsc]
 refine zqt 3 (.int .i64 2) rfl ?_ HS0 ?_
 ·intro w' hS
  obtain⟨b0,b1,b2,b3,b4⟩:=zqf hS.2; have bl:=block_lt hS.2
  go_simp
 simp only [Act.put,zga,zgb,zgc,zsa,zsb,zsc]
 refine zqr 4 rfl (fun K1 hK=>?_)
 refine if_wanted (wanted_none rfl) ?_
 simp only [zga,zgb,zgc]
 go_simp
 refine (hch _).mono ?_
 rintro e u4 ⟨rfl,q⟩
 obtain rfl:=q
 refine hK.out _ _ HS0 (fun _=>?_)
 clear hK hch
 refine zqr 5 rfl (fun K1 hK=>?_)
 refine if_wanted (wanted_none rfl) ?_
 simp only [zga,zgb,zgc]
 go_simp
 refine (huc _ (HP.out.called HS0.1.2.2)).mono ?_
 rintro e u5 ⟨ok2,a2,m2,c2,rfl,hok2,hy2,hB⟩
 have HT:=HS0.called hB
 refine hK.out _ _ HT (fun HS1=>?_)
 have HOK2:=hid_of hok2
 have HYZ:Hid (ok=true→ok2=true→N=m1∧0=m2∧SL u5 w.heap.size a1 (N) c1 (tkF 3 2 1 S)∧SL u5 w.heap.size a2 0 c2 (tkF 3 2 1 C)∧(0=0∨N=0∨a2≠a1)∧N≤c1∧c1≤maxLen):=fun h h2=>⟨(HYY2.out h).1,(hy2 h2).1.symm,(HYY2.out h).2.1.called hB,sl_low2 (hy2 h2).2.1 HS0.1.2.2.size,sl_apart (HYY2.out h).2.1 (hy2 h2).2.1,(HYY2.out h).2.2⟩
 clear hK hB HT hok2 hy2 huc HYY2
 refine zqt 6 (.tuple #[.slice a2 m2 c2,.bool ok2]) rfl ?_ HS1 ?_
 ·intro w' _
  go_simp
 simp only [Act.put,zga,zgb,zgc,zsa,zsb,zsc]
 refine zqt 7 (.slice a2 m2 c2) rfl ?_ HS1 ?_
 ·intro w' _
  go_simp
 simp only [Act.put,zga,zgb,zgc,zsa,zsb,zsc]
 refine zqt 8 (.bool ok2) rfl ?_ HS1 ?_
 ·intro w' _
  go_simp
 simp only [Act.put,zga,zgb,zgc,zsa,zsb,zsc]
 refine zqt 9 (.slice a2 m2 c2) rfl ?_ HS1 ?_
 ·intro w' _
  go_simp
 simp only [Act.put,zga,zgb,zgc,zsa,zsb,zsc]
 refine zqt 10 (.bool ok2) rfl ?_ HS1 ?_
 ·intro w' _
  go_simp
 simp only [Act.put,zga,zgb,zgc,zsa,zsb,zsc]
 refine wpAnyH_done (by kernel_rfl) ?_ _
 have H3:=hid_of HS1
 clear HS1 HS0
 cases ok
 ·have HN:=hid_of (HNo.out fun h=>by have:=HOK.out.mpr h.2.1; cases this)
  obtain⟨⟨z0,z1,z2,z3,z4,z5,z6,z7,z8,z9,z10,z11,z12,y0,y1,y2,y3,y4,y5,y6,y7,y8,y9,y10,y11,y12⟩,yf,yl⟩:=H3.out.1.cells
  clear HYes HMk hr1 HOK HOK2 HYZ
  go_wp2_with fail
  refine bodyPost_ret (v:=.tuple #[.agg #[.int .i64 0,.int .i64 0,.int .i64 0,.int .i64 0,.bool false,.slice none 0 0,.slice none 0 0,.int .i64 0,.int .i64 0,.int .i64 0,.int .i64 0,.slice none 0 0,.slice none 0 0],.bool false]) ?_ rfl (HN.out _ ?_)
  ·simp[results,Tryz.results16,go_sem, *]
  ·exact H3.out.1.stored _ _ _ _ _ _ _ _ _ _ _ _ _ 
 cases ok2
 ·have HN:=hid_of (HNo.out fun h=>by have:=HOK2.out.mpr h.2.2; cases this)
  obtain⟨⟨z0,z1,z2,z3,z4,z5,z6,z7,z8,z9,z10,z11,z12,y0,y1,y2,y3,y4,y5,y6,y7,y8,y9,y10,y11,y12⟩,yf,yl⟩:=H3.out.1.cells
  clear HYes HMk hr1 HOK HOK2 HYZ
  go_wp2_with fail
  refine bodyPost_ret (v:=.tuple #[.agg #[.int .i64 0,.int .i64 0,.int .i64 0,.int .i64 0,.bool false,.slice none 0 0,.slice none 0 0,.int .i64 0,.int .i64 0,.int .i64 0,.int .i64 0,.slice none 0 0,.slice none 0 0],.bool false]) ?_ rfl (HN.out _ ?_)
  ·simp[results,Tryz.results16,go_sem, *]
  ·exact H3.out.1.stored _ _ _ _ _ _ _ _ _ _ _ _ _ 
 obtain⟨rfl,rfl,hs1,hc1,hne,hcap1⟩:=HYZ.out rfl rfl
 have HY:=hid_of (HYes.out ⟨HM.out,HOK.out.mp rfl,HOK2.out.mp rfl⟩)
 have HSS:=hid_of hs1
 have HCC:=hid_of hc1
 have HNE:=hid_of hne
 have HCAP:=hid_of hcap1
 clear hs1 hc1 hne hcap1 HYZ HOK HOK2 HYes HNo HM
 have la:=block_lt H3.out.1.1
 obtain⟨a0,a1,a2,a3,a4,a5,a6,a7,a8,a9,a10,a11,a12⟩:=zqc H3.out.1.1
 have lh:=block_lt H3.out.2
 obtain⟨h0,h1,h2,h3,h4⟩:=zqf H3.out.2
 go_wp2_with fail
 clear la a0 a1 a2 a3 a4 a5 a6 a7 a8 a9 a10 a11 a12
 clear lh h0 h1 h2 h3 h4
 refine (hr1 a1 (N) c1 _ (HP.out.called H3.out.1.2.2)).mono ?_
 rintro e w3 ⟨kk,kc1,he,hk,hB⟩
 simp only [HE.out.1,HE.out.2.1,HE.out.2.2.1,HE.out.2.2.2.1,HE.out.2.2.2.2] at he hk
 subst he
 have H4:Hid (WP w #[.int .i64 hw,.int .i64 hh,.int .i64 hd,.int .i64 2,.bool lace,.slice ta tn tc,.slice ca 0 cc,.int .i64 rw',.int .i64 rh,.int .i64 rc,.int .i64 rd,.slice sa (3 * N) sc,.slice ka kn kc] (withP p0 0 hd (N) (tkF 3 2 1 S) 0 (tkF 3 2 1 C)) ⟨none,0,a2,c2,a1,c1,kk,kc1⟩ w3):=⟨H3.out.1.called hB,HMk.out _ _ _ _ _ _ _ (HSS.out.called hB) (HCC.out.called hB) (ksl_low2 hk H3.out.1.2.2.size) HNE.out HCAP.out⟩
 clear hB hk H3 HSS HCC HNE HCAP HMk hr1
 obtain⟨⟨z0,z1,z2,z3,z4,z5,z6,z7,z8,z9,z10,z11,z12,y0,y1,y2,y3,y4,y5,y6,y7,y8,y9,y10,y11,y12⟩,yf,yl⟩:=H4.out.m.cells
 have l0:=block_lt H4.out.m.1
 go_wp2_with fail
 refine bodyPost_ret (v:=.tuple #[.agg #[.int .i64 hw,.int .i64 hh,.int .i64 hd,.int .i64 0,.bool lace,.slice none 0 0,.slice a2 0 c2,.int .i64 hw,.int .i64 hh,.int .i64 0,.int .i64 hd,.slice a1 (N) c1,.slice kk kn kc1],.bool true]) ?_ rfl (HY.out _ _ _ _ _ _ _ ?_ ?_)
 ·simp[results,Tryz.results16,go_sem, *]
 ·exact (H4.out.stored _ _ _ _ _ _ _ _ _ _ _ _ _ ).1.called (bstart _ _)
 ·exact bal (H4.out.stored _ _ _ _ _ _ _ _ _ _ _ _ _ ).2 _
set_option maxRecDepth 100000 in
set_option maxHeartbeats 6400000 in
theorem implCol_2_3 (p:Pic) (q:PicA) (w:World) (hP:PngIn w p q) (hZ:PngSz p) (hcl:p.cn≤q.cc) (hcc:p.hc=2) (hcn:p.cn=3):
  Calls Tryz.prog 16 #[pngV p q] w (LessPost (MayR p∧(∀ k,k < pixN p→GryR 3 p.S k)∧∀ k,k < 1→GryR 3 p.C k) (withP p 0 p.hd (pixN p) (tkF 3 2 1 p.S) 1 (tkF 3 2 1 p.C)) w):=by
 have hok:=fun W h=>implMay p q W h hZ
 have hch:=fun W=>implChannels 2 W
 rw[show chan 2=((3:Nat):Int) by decide] at hch
 have hwc:=fun W=>withoutColor_any 2 W
 have hun:=fun W (h:PngIn W p q) (hR:PngR p) (hs:p.sn=3 * pixN p)=>gry_came q.sa 3 1 (pixN p) q.sc p.S W rfl (by omega) (by omega) (by have:=(png_n hR).2.2; omega) (by rw [← hs]; exact h.capped.1) (by rw [← hs]; exact h.s)
 have huc:=fun W (h:PngIn W p q)=>gry_came q.ca 3 1 1 q.cc p.C W rfl (by omega) (by omega) (by omega) (by omega) (by have:=h.c; rw [hcn] at this; exact this)
 have hr:=fun ya yn yc W (h:PngIn W p q) (hR:PngR p)=>implRetold p q 0 p.hd ya yn yc W h.k (by have:=(png_fits hR).2.2.2.2; omega) hZ.m
 have HNo:Hid (¬ (MayR p∧(∀ k,k < pixN p→GryR 3 p.S k)∧∀ k,k < 1→GryR 3 p.C k)→∀ W,Below w.heap.size w W→LessPost (MayR p∧(∀ k,k < pixN p→GryR 3 p.S k)∧∀ k,k < 1→GryR 3 p.C k) (withP p 0 p.hd (pixN p) (tkF 3 2 1 p.S) 1 (tkF 3 2 1 p.C)) w (.returned (.tuple #[.agg #[.int .i64 0,.int .i64 0,.int .i64 0,.int .i64 0,.bool false,.slice none 0 0,.slice none 0 0,.int .i64 0,.int .i64 0,.int .i64 0,.int .i64 0,.slice none 0 0,.slice none 0 0],.bool false])) W):=fun h W b=>.inl ⟨h,rfl,b⟩
 have HYes:Hid ((MayR p∧(∀ k,k < pixN p→GryR 3 p.S k)∧∀ k,k < 1→GryR 3 p.C k)→∀ (W:World) (a xa ka:Option Addr) (c xc kc:Nat),PngSL W w.heap.size (withP p 0 p.hd (pixN p) (tkF 3 2 1 p.S) 1 (tkF 3 2 1 p.C)) ⟨none,0,xa,xc,a,c,ka,kc⟩→Below w.heap.size w W→LessPost (MayR p∧(∀ k,k < pixN p→GryR 3 p.S k)∧∀ k,k < 1→GryR 3 p.C k) (withP p 0 p.hd (pixN p) (tkF 3 2 1 p.S) 1 (tkF 3 2 1 p.C)) w (.returned (.tuple #[.agg #[.int .i64 p.hw,.int .i64 p.hh,.int .i64 p.hd,.int .i64 0,.bool p.lace,.slice none 0 0,.slice xa 1 xc,.int .i64 p.hw,.int .i64 p.hh,.int .i64 0,.int .i64 p.hd,.slice a (pixN p) c,.slice ka p.kn kc],.bool true])) W):=fun h W a xa ka c xc kc h1 h6=>.inr ⟨h,_,rfl,h1,h6⟩
 have HMk:Hid (∀ (W:World) (a xa ka:Option Addr) (c xc kc:Nat),SL W w.heap.size a (pixN p) c (tkF 3 2 1 p.S)→SL W w.heap.size xa 1 xc (tkF 3 2 1 p.C)→KSL W w.heap.size ka p.kn p.K→(1=0∨pixN p=0∨xa≠a)→pixN p≤c∧c≤maxLen→PngSL W w.heap.size (withP p 0 p.hd (pixN p) (tkF 3 2 1 p.S) 1 (tkF 3 2 1 p.C)) ⟨none,0,xa,xc,a,c,ka,kc⟩):=fun W a xa ka c xc kc h1 h2 h3 h4 h5=>⟨.inl rfl,h2,h1,h3,h4,h5⟩
 have HMR:Hid (MayR p→PngR p∧p.sn=3 * pixN p∧pixN p≤576):=fun h=>⟨h.1,by have:=(png_n h.1).1; rw [hcc,show chanN 2=3 by decide] at this; exact this,(png_n h.1).2.2⟩
 have HP:=hid_of hP
 clear hP hZ hcl
 obtain⟨N,hNN⟩:∃ N,N=pixN p:=⟨_,rfl⟩
 rw[← hNN] at hun HNo HYes HMk HMR ⊢
 obtain⟨p0,hp0⟩:∃ p0,p0=p:=⟨_,rfl⟩
 obtain⟨hw,hh,hd,hc',lace,tn,T,cn,C,rw',rh,rc,rd,sn,S,kn,K⟩:=p
 obtain⟨ta,tc,ca,cc,sa,sc,ka,kc⟩:=q
 simp only [pngV] at hok hun huc hr HYes HNo HMR HMk ⊢
 replace hcc:hc'=2:=hcc
 replace hcn:cn=3:=hcn
 have HE:Hid (p0.kn=kn∧p0.K=K∧p0.hw=hw∧p0.hh=hh∧p0.lace=lace):=by rw [hp0]; exact⟨rfl,rfl,rfl,rfl,rfl⟩
 rw[← hp0] at hok hun huc hr HP HYes HNo HMR HMk ⊢
 clear hp0 hNN
 subst hcc hcn
 have H0:Hid (RT w #[.int .i64 hw,.int .i64 hh,.int .i64 hd,.int .i64 2,.bool lace,.slice ta tn tc,.slice ca 3 cc,.int .i64 rw',.int .i64 rh,.int .i64 rc,.int .i64 rd,.slice sa sn sc,.slice ka kn kc] #[.int .i64 hw,.int .i64 hh,.int .i64 hd,.int .i64 2,.bool lace] (((w.alloc (.cells #[.int .i64 hw,.int .i64 hh,.int .i64 hd,.int .i64 2,.bool lace,.slice ta tn tc,.slice ca 3 cc,.int .i64 rw',.int .i64 rh,.int .i64 rc,.int .i64 rd,.slice sa sn sc,.slice ka kn kc] 37)).alloc (.cells #[.int .i64 0,.int .i64 0,.int .i64 0,.int .i64 0,.bool false,.slice none 0 0,.slice none 0 0,.int .i64 0,.int .i64 0,.int .i64 0,.int .i64 0,.slice none 0 0,.slice none 0 0] 37)).alloc (.cells #[.int .i64 hw,.int .i64 hh,.int .i64 hd,.int .i64 2,.bool lace] 32))):=RT.start w _ _ _ rfl
 go_enter Tryz.func16,Tryz.ntmps16
 go_wp2_with fail
 refine (hwc _).mono ?_
 rintro e w1 ⟨rfl,rfl⟩
 clear hwc
 generalize ((w.alloc (.cells #[.int .i64 hw,.int .i64 hh,.int .i64 hd,.int .i64 2,.bool lace,.slice ta tn tc,.slice ca 3 cc,.int .i64 rw',.int .i64 rh,.int .i64 rc,.int .i64 rd,.slice sa sn sc,.slice ka kn kc] 37)).alloc (.cells #[.int .i64 0,.int .i64 0,.int .i64 0,.int .i64 0,.bool false,.slice none 0 0,.slice none 0 0,.int .i64 0,.int .i64 0,.int .i64 0,.int .i64 0,.slice none 0 0,.slice none 0 0] 37)).alloc (.cells #[.int .i64 hw,.int .i64 hh,.int .i64 hd,.int .i64 2,.bool lace] 32)=w1 at H0 ⊢
 have la:=block_lt H0.out.1.1
 obtain⟨a0,a1,a2,a3,a4,a5,a6,a7,a8,a9,a10,a11,a12⟩:=zqc H0.out.1.1
 go_wp2_with fail
 clear la a0 a1 a2 a3 a4 a5 a6 a7 a8 a9 a10 a11 a12
 refine (hok _ (HP.out.called H0.out.1.2.2)).mono ?_
 rintro e w2 ⟨b,rfl,hb,hB⟩
 have H1:=hid_of (H0.out.called hB)
 have HB:=hid_of hb
 clear hB hb H0 hok
 cases b
 ·have HN:=hid_of (HNo.out fun h=>by have:=HB.out.mpr h.1; cases this)
  obtain⟨⟨z0,z1,z2,z3,z4,z5,z6,z7,z8,z9,z10,z11,z12,y0,y1,y2,y3,y4,y5,y6,y7,y8,y9,y10,y11,y12⟩,yf,yl⟩:=H1.out.1.cells
  clear HYes HMk hun huc hr hch HB
  go_wp2_with fail
  refine bodyPost_ret (v:=.tuple #[.agg #[.int .i64 0,.int .i64 0,.int .i64 0,.int .i64 0,.bool false,.slice none 0 0,.slice none 0 0,.int .i64 0,.int .i64 0,.int .i64 0,.int .i64 0,.slice none 0 0,.slice none 0 0],.bool false]) ?_ rfl (HN.out _ ?_)
  ·simp[results,Tryz.results16,go_sem, *]
  ·exact H1.out.1.stored _ _ _ _ _ _ _ _ _ _ _ _ _ 
 have HM:=hid_of (HB.out.mp rfl)
 obtain⟨hR,hsn,hN576⟩:=HMR.out HM.out
 have hun1:=fun W h=>hun W h hR hsn
 have hr1:=fun ya yn yc W h=>hr ya yn yc W h hR
 clear HB HMR hun hr hR
 subst hsn
 go_wp2_with fail
 have HS0:RT w #[.int .i64 hw,.int .i64 hh,.int .i64 hd,.int .i64 2,.bool lace,.slice ta tn tc,.slice ca 3 cc,.int .i64 rw',.int .i64 rh,.int .i64 rc,.int .i64 rd,.slice sa (3 * N) sc,.slice ka kn kc] #[.int .i64 hw,.int .i64 hh,.int .i64 hd,.int .i64 2,.bool lace] w2.drew:=H1.out.called (bdraws (Below.refl _ _) 1)
 clear H1
 refine wp_region_held (S:=RT w #[.int .i64 hw,.int .i64 hh,.int .i64 hd,.int .i64 2,.bool lace,.slice ta tn tc,.slice ca 3 cc,.int .i64 rw',.int .i64 rh,.int .i64 rc,.int .i64 rd,.slice sa (3 * N) sc,.slice ka kn kc] #[.int .i64 hw,.int .i64 hh,.int .i64 hd,.int .i64 2,.bool lace]) (by kernel_rfl) ?_
 show wpAnyH _ _ _ _ _ _ _ _ w2.drew
 generalize w2.drew=u0 at HS0 ⊢
 refine zqt 0 (.pointer (some ⟨w.heap.size,7,none⟩)) rfl ?_ HS0 ?_
 ·intro w' _
  go_simp
 simp only [Act.put,zga,zgb,zsa,zsb,zsc]
 refine zqt 1 (.pointer (some ⟨w.heap.size,11,none⟩)) rfl ?_ HS0 ?_
 ·intro w' _
  go_simp
 simp only [Act.put,zga,zgb,zgc,zsa,zsb,zsc]
 refine zqt 2 (.slice sa (3 * N) sc) rfl ?_ HS0 ?_
 ·intro w' hS
  obtain⟨b0,b1,b2,b3,b4,b5,b6,b7,b8,b9,b10,b11,b12⟩:=zqc hS.1.1; have bl:=block_lt hS.1.1
  go_simp
 simp only [Act.put,zga,zgb,zgc,zsa,zsb,zsc]
 refine zqt 3 (.pointer (some ⟨w.heap.size+1+1,3,none⟩)) rfl ?_ HS0 ?_
 ·intro w' _
  go_simp
 simp only [Act.put,zga,zgb,zgc,zsa,zsb,zsc]
 refine zqt 4 (.int .i64 2) rfl ?_ HS0 ?_
 ·intro w' hS
  obtain⟨b0,b1,b2,b3,b4⟩:=zqf hS.2; have bl:=block_lt hS.2
  go_simp
 simp only [Act.put,zga,zgb,zgc,zsa,zsb,zsc]
 refine zqr 5 rfl (fun K1 hK=>?_)
 refine if_wanted (wanted_none rfl) ?_
 simp only [zga,zgb,zgc]
 go_simp
 refine (hch _).mono ?_
 rintro e u1 ⟨rfl,q⟩
 obtain rfl:=q
 refine hK.out _ _ HS0 (fun _=>?_)
 clear hK
 refine zqr 6 rfl (fun K1 hK=>?_)
 refine if_wanted (wanted_none rfl) ?_
 simp only [zga,zgb,zgc]
 go_simp
 refine (hun1 _ (HP.out.called HS0.1.2.2)).mono ?_
 rintro e u2 ⟨ok,a1,m1,c1,rfl,hok,hy,hB⟩
 have HT:=HS0.called hB
 refine hK.out _ _ HT (fun HS1=>?_)
 have HOK:=hid_of hok
 have HYY:Hid (ok=true→N=m1∧SL u2 w.heap.size a1 (N) c1 (tkF 3 2 1 S)∧N≤c1∧c1≤maxLen):=fun h=>by
  have q:=hy h
  rw[Nat.one_mul] at q
  exact⟨q.1.symm,sl_low2 q.2.1 HS0.1.2.2.size,q.2.2⟩
 clear hK hB HT hok hy hun1
 refine zqt 7 (.tuple #[.slice a1 m1 c1,.bool ok]) rfl ?_ HS1 ?_
 ·intro w' _
  go_simp
 simp only [Act.put,zga,zgb,zgc,zsa,zsb,zsc]
 refine zqt 8 (.slice a1 m1 c1) rfl ?_ HS1 ?_
 ·intro w' _
  go_simp
 simp only [Act.put,zga,zgb,zgc,zsa,zsb,zsc]
 refine zqt 9 (.bool ok) rfl ?_ HS1 ?_
 ·intro w' _
  go_simp
 simp only [Act.put,zga,zgb,zgc,zsa,zsb,zsc]
 refine zqt 10 (.slice a1 m1 c1) rfl ?_ HS1 ?_
 ·intro w' _
  go_simp
 simp only [Act.put,zga,zgb,zgc,zsa,zsb,zsc]
 refine zqt 11 (.bool ok) rfl ?_ HS1 ?_
 ·intro w' _
  go_simp
 simp only [Act.put,zga,zgb,zgc,zsa,zsb,zsc]
 refine wpAnyH_done (by kernel_rfl) ?_ _
 have H2:=hid_of HS1
 clear HS1 HS0
 go_wp2_with fail
 have HS0:RT w #[.int .i64 hw,.int .i64 hh,.int .i64 hd,.int .i64 2,.bool lace,.slice ta tn tc,.slice ca 3 cc,.int .i64 rw',.int .i64 rh,.int .i64 rc,.int .i64 rd,.slice sa (3 * N) sc,.slice ka kn kc] #[.int .i64 hw,.int .i64 hh,.int .i64 hd,.int .i64 2,.bool lace] u2.drew:=H2.out.called (bdraws (Below.refl _ _) 1)
 have HYY2:Hid (ok=true→N=m1∧SL u2.drew w.heap.size a1 (N) c1 (tkF 3 2 1 S)∧N≤c1∧c1≤maxLen):=fun h=>⟨(HYY.out h).1,(HYY.out h).2.1.called (bdraws (Below.refl _ _) 1),(HYY.out h).2.2⟩
 clear H2 HYY
 refine wp_region_held (S:=RT w #[.int .i64 hw,.int .i64 hh,.int .i64 hd,.int .i64 2,.bool lace,.slice ta tn tc,.slice ca 3 cc,.int .i64 rw',.int .i64 rh,.int .i64 rc,.int .i64 rd,.slice sa (3 * N) sc,.slice ka kn kc] #[.int .i64 hw,.int .i64 hh,.int .i64 hd,.int .i64 2,.bool lace]) (by kernel_rfl) ?_
 show wpAnyH _ _ _ _ _ _ _ _ u2.drew
 generalize u2.drew=u3 at HS0 HYY2 ⊢
 refine zqt 0 (.pointer (some ⟨w.heap.size,6,none⟩)) rfl ?_ HS0 ?_
 ·intro w' _
  go_simp
 simp only [Act.put,zga,zgb,zsa,zsb,zsc]
 refine zqt 1 (.slice ca 3 cc) rfl ?_ HS0 ?_
 ·intro w' hS
  obtain⟨b0,b1,b2,b3,b4,b5,b6,b7,b8,b9,b10,b11,b12⟩:=zqc hS.1.1; have bl:=block_lt hS.1.1
  go_simp
 simp only [Act.put,zga,zgb,zgc,zsa,zsb,zsc]
 refine zqt 2 (.pointer (some ⟨w.heap.size+1+1,3,none⟩)) rfl ?_ HS0 ?_
 ·intro w' _
  go_simp
 simp only [Act.put,zga,zgb,zgc,zsa,zsb,zsc]
 refine zqt 3 (.int .i64 2) rfl ?_ HS0 ?_
 ·intro w' hS
  obtain⟨b0,b1,b2,b3,b4⟩:=zqf hS.2; have bl:=block_lt hS.2
  go_simp
 simp only [Act.put,zga,zgb,zgc,zsa,zsb,zsc]
 refine zqr 4 rfl (fun K1 hK=>?_)
 refine if_wanted (wanted_none rfl) ?_
 simp only [zga,zgb,zgc]
 go_simp
 refine (hch _).mono ?_
 rintro e u4 ⟨rfl,q⟩
 obtain rfl:=q
 refine hK.out _ _ HS0 (fun _=>?_)
 clear hK hch
 refine zqr 5 rfl (fun K1 hK=>?_)
 refine if_wanted (wanted_none rfl) ?_
 simp only [zga,zgb,zgc]
 go_simp
 refine (huc _ (HP.out.called HS0.1.2.2)).mono ?_
 rintro e u5 ⟨ok2,a2,m2,c2,rfl,hok2,hy2,hB⟩
 have HT:=HS0.called hB
 refine hK.out _ _ HT (fun HS1=>?_)
 have HOK2:=hid_of hok2
 have HYZ:Hid (ok=true→ok2=true→N=m1∧1=m2∧SL u5 w.heap.size a1 (N) c1 (tkF 3 2 1 S)∧SL u5 w.heap.size a2 1 c2 (tkF 3 2 1 C)∧(1=0∨N=0∨a2≠a1)∧N≤c1∧c1≤maxLen):=fun h h2=>⟨(HYY2.out h).1,(hy2 h2).1.symm,(HYY2.out h).2.1.called hB,sl_low2 (hy2 h2).2.1 HS0.1.2.2.size,sl_apart (HYY2.out h).2.1 (hy2 h2).2.1,(HYY2.out h).2.2⟩
 clear hK hB HT hok2 hy2 huc HYY2
 refine zqt 6 (.tuple #[.slice a2 m2 c2,.bool ok2]) rfl ?_ HS1 ?_
 ·intro w' _
  go_simp
 simp only [Act.put,zga,zgb,zgc,zsa,zsb,zsc]
 refine zqt 7 (.slice a2 m2 c2) rfl ?_ HS1 ?_
 ·intro w' _
  go_simp
 simp only [Act.put,zga,zgb,zgc,zsa,zsb,zsc]
 refine zqt 8 (.bool ok2) rfl ?_ HS1 ?_
 ·intro w' _
  go_simp
 simp only [Act.put,zga,zgb,zgc,zsa,zsb,zsc]
 refine zqt 9 (.slice a2 m2 c2) rfl ?_ HS1 ?_
 ·intro w' _
  go_simp
 simp only [Act.put,zga,zgb,zgc,zsa,zsb,zsc]
 refine zqt 10 (.bool ok2) rfl ?_ HS1 ?_
 ·intro w' _
  go_simp
 simp only [Act.put,zga,zgb,zgc,zsa,zsb,zsc]
 refine wpAnyH_done (by kernel_rfl) ?_ _
 have H3:=hid_of HS1
 clear HS1 HS0
 cases ok
 ·have HN:=hid_of (HNo.out fun h=>by have:=HOK.out.mpr h.2.1; cases this)
  obtain⟨⟨z0,z1,z2,z3,z4,z5,z6,z7,z8,z9,z10,z11,z12,y0,y1,y2,y3,y4,y5,y6,y7,y8,y9,y10,y11,y12⟩,yf,yl⟩:=H3.out.1.cells
  clear HYes HMk hr1 HOK HOK2 HYZ
  go_wp2_with fail
  refine bodyPost_ret (v:=.tuple #[.agg #[.int .i64 0,.int .i64 0,.int .i64 0,.int .i64 0,.bool false,.slice none 0 0,.slice none 0 0,.int .i64 0,.int .i64 0,.int .i64 0,.int .i64 0,.slice none 0 0,.slice none 0 0],.bool false]) ?_ rfl (HN.out _ ?_)
  ·simp[results,Tryz.results16,go_sem, *]
  ·exact H3.out.1.stored _ _ _ _ _ _ _ _ _ _ _ _ _ 
 cases ok2
 ·have HN:=hid_of (HNo.out fun h=>by have:=HOK2.out.mpr h.2.2; cases this)
  obtain⟨⟨z0,z1,z2,z3,z4,z5,z6,z7,z8,z9,z10,z11,z12,y0,y1,y2,y3,y4,y5,y6,y7,y8,y9,y10,y11,y12⟩,yf,yl⟩:=H3.out.1.cells
  clear HYes HMk hr1 HOK HOK2 HYZ
  go_wp2_with fail
  refine bodyPost_ret (v:=.tuple #[.agg #[.int .i64 0,.int .i64 0,.int .i64 0,.int .i64 0,.bool false,.slice none 0 0,.slice none 0 0,.int .i64 0,.int .i64 0,.int .i64 0,.int .i64 0,.slice none 0 0,.slice none 0 0],.bool false]) ?_ rfl (HN.out _ ?_)
  ·simp[results,Tryz.results16,go_sem, *]
  ·exact H3.out.1.stored _ _ _ _ _ _ _ _ _ _ _ _ _ 
 obtain⟨rfl,rfl,hs1,hc1,hne,hcap1⟩:=HYZ.out rfl rfl
 have HY:=hid_of (HYes.out ⟨HM.out,HOK.out.mp rfl,HOK2.out.mp rfl⟩)
 have HSS:=hid_of hs1
 have HCC:=hid_of hc1
 have HNE:=hid_of hne
 have HCAP:=hid_of hcap1
 clear hs1 hc1 hne hcap1 HYZ HOK HOK2 HYes HNo HM
 have la:=block_lt H3.out.1.1
 obtain⟨a0,a1,a2,a3,a4,a5,a6,a7,a8,a9,a10,a11,a12⟩:=zqc H3.out.1.1
 have lh:=block_lt H3.out.2
 obtain⟨h0,h1,h2,h3,h4⟩:=zqf H3.out.2
 go_wp2_with fail
 clear la a0 a1 a2 a3 a4 a5 a6 a7 a8 a9 a10 a11 a12
 clear lh h0 h1 h2 h3 h4
 refine (hr1 a1 (N) c1 _ (HP.out.called H3.out.1.2.2)).mono ?_
 rintro e w3 ⟨kk,kc1,he,hk,hB⟩
 simp only [HE.out.1,HE.out.2.1,HE.out.2.2.1,HE.out.2.2.2.1,HE.out.2.2.2.2] at he hk
 subst he
 have H4:Hid (WP w #[.int .i64 hw,.int .i64 hh,.int .i64 hd,.int .i64 2,.bool lace,.slice ta tn tc,.slice ca 3 cc,.int .i64 rw',.int .i64 rh,.int .i64 rc,.int .i64 rd,.slice sa (3 * N) sc,.slice ka kn kc] (withP p0 0 hd (N) (tkF 3 2 1 S) 1 (tkF 3 2 1 C)) ⟨none,0,a2,c2,a1,c1,kk,kc1⟩ w3):=⟨H3.out.1.called hB,HMk.out _ _ _ _ _ _ _ (HSS.out.called hB) (HCC.out.called hB) (ksl_low2 hk H3.out.1.2.2.size) HNE.out HCAP.out⟩
 clear hB hk H3 HSS HCC HNE HCAP HMk hr1
 obtain⟨⟨z0,z1,z2,z3,z4,z5,z6,z7,z8,z9,z10,z11,z12,y0,y1,y2,y3,y4,y5,y6,y7,y8,y9,y10,y11,y12⟩,yf,yl⟩:=H4.out.m.cells
 have l0:=block_lt H4.out.m.1
 go_wp2_with fail
 refine bodyPost_ret (v:=.tuple #[.agg #[.int .i64 hw,.int .i64 hh,.int .i64 hd,.int .i64 0,.bool lace,.slice none 0 0,.slice a2 1 c2,.int .i64 hw,.int .i64 hh,.int .i64 0,.int .i64 hd,.slice a1 (N) c1,.slice kk kn kc1],.bool true]) ?_ rfl (HY.out _ _ _ _ _ _ _ ?_ ?_)
 ·simp[results,Tryz.results16,go_sem, *]
 ·exact (H4.out.stored _ _ _ _ _ _ _ _ _ _ _ _ _ ).1.called (bstart _ _)
 ·exact bal (H4.out.stored _ _ _ _ _ _ _ _ _ _ _ _ _ ).2 _
set_option maxRecDepth 100000 in
set_option maxHeartbeats 6400000 in
theorem implCol_6_0 (p:Pic) (q:PicA) (w:World) (hP:PngIn w p q) (hZ:PngSz p) (hcc:p.hc=6) (hcn:p.cn=0):
  Calls Tryz.prog 16 #[pngV p q] w (LessPost (MayR p∧(∀ k,k < pixN p→GryR 4 p.S k)∧∀ k,k < 0→GryR 4 p.C k) (withP p 4 p.hd (2 * pixN p) (tkF 4 2 2 p.S) 0 (tkF 4 2 2 p.C)) w):=by
 have hok:=fun W h=>implMay p q W h hZ
 have hch:=fun W=>implChannels 6 W
 rw[show chan 6=((4:Nat):Int) by decide] at hch
 have hwc:=fun W=>withoutColor_any 6 W
 have hun:=fun W (h:PngIn W p q) (hR:PngR p) (hs:p.sn=4 * pixN p)=>gry_came q.sa 4 2 (pixN p) q.sc p.S W rfl (by omega) (by omega) (by have:=(png_n hR).2.2; omega) (by rw [← hs]; exact h.capped.1) (by rw [← hs]; exact h.s)
 have huc:=fun W (h:PngIn W p q)=>gry_came q.ca 4 2 0 q.cc p.C W rfl (by omega) (by omega) (by omega) (by omega) (by have:=h.c; rw [hcn] at this; exact this)
 have hr:=fun ya yn yc W (h:PngIn W p q) (hR:PngR p)=>implRetold p q 4 p.hd ya yn yc W h.k (by have:=(png_fits hR).2.2.2.2; omega) hZ.m
 have HNo:Hid (¬ (MayR p∧(∀ k,k < pixN p→GryR 4 p.S k)∧∀ k,k < 0→GryR 4 p.C k)→∀ W,Below w.heap.size w W→LessPost (MayR p∧(∀ k,k < pixN p→GryR 4 p.S k)∧∀ k,k < 0→GryR 4 p.C k) (withP p 4 p.hd (2 * pixN p) (tkF 4 2 2 p.S) 0 (tkF 4 2 2 p.C)) w (.returned (.tuple #[.agg #[.int .i64 0,.int .i64 0,.int .i64 0,.int .i64 0,.bool false,.slice none 0 0,.slice none 0 0,.int .i64 0,.int .i64 0,.int .i64 0,.int .i64 0,.slice none 0 0,.slice none 0 0],.bool false])) W):=fun h W b=>.inl ⟨h,rfl,b⟩
 have HYes:Hid ((MayR p∧(∀ k,k < pixN p→GryR 4 p.S k)∧∀ k,k < 0→GryR 4 p.C k)→∀ (W:World) (a xa ka:Option Addr) (c xc kc:Nat),PngSL W w.heap.size (withP p 4 p.hd (2 * pixN p) (tkF 4 2 2 p.S) 0 (tkF 4 2 2 p.C)) ⟨none,0,xa,xc,a,c,ka,kc⟩→Below w.heap.size w W→LessPost (MayR p∧(∀ k,k < pixN p→GryR 4 p.S k)∧∀ k,k < 0→GryR 4 p.C k) (withP p 4 p.hd (2 * pixN p) (tkF 4 2 2 p.S) 0 (tkF 4 2 2 p.C)) w (.returned (.tuple #[.agg #[.int .i64 p.hw,.int .i64 p.hh,.int .i64 p.hd,.int .i64 4,.bool p.lace,.slice none 0 0,.slice xa 0 xc,.int .i64 p.hw,.int .i64 p.hh,.int .i64 4,.int .i64 p.hd,.slice a (2 * pixN p) c,.slice ka p.kn kc],.bool true])) W):=fun h W a xa ka c xc kc h1 h6=>.inr ⟨h,_,rfl,h1,h6⟩
 have HMk:Hid (∀ (W:World) (a xa ka:Option Addr) (c xc kc:Nat),SL W w.heap.size a (2 * pixN p) c (tkF 4 2 2 p.S)→SL W w.heap.size xa 0 xc (tkF 4 2 2 p.C)→KSL W w.heap.size ka p.kn p.K→(0=0∨2 * pixN p=0∨xa≠a)→2 * pixN p≤c∧c≤maxLen→PngSL W w.heap.size (withP p 4 p.hd (2 * pixN p) (tkF 4 2 2 p.S) 0 (tkF 4 2 2 p.C)) ⟨none,0,xa,xc,a,c,ka,kc⟩):=fun W a xa ka c xc kc h1 h2 h3 h4 h5=>⟨.inl rfl,h2,h1,h3,h4,h5⟩
 have HMR:Hid (MayR p→PngR p∧p.sn=4 * pixN p∧pixN p≤576):=fun h=>⟨h.1,by have:=(png_n h.1).1; rw [hcc,show chanN 6=4 by decide] at this; exact this,(png_n h.1).2.2⟩
 have HP:=hid_of hP
 clear hP hZ
 obtain⟨N,hNN⟩:∃ N,N=pixN p:=⟨_,rfl⟩
 rw[← hNN] at hun HNo HYes HMk HMR ⊢
 obtain⟨p0,hp0⟩:∃ p0,p0=p:=⟨_,rfl⟩
 obtain⟨hw,hh,hd,hc',lace,tn,T,cn,C,rw',rh,rc,rd,sn,S,kn,K⟩:=p
 obtain⟨ta,tc,ca,cc,sa,sc,ka,kc⟩:=q
 simp only [pngV] at hok hun huc hr HYes HNo HMR HMk ⊢
 replace hcc:hc'=6:=hcc
 replace hcn:cn=0:=hcn
 have HE:Hid (p0.kn=kn∧p0.K=K∧p0.hw=hw∧p0.hh=hh∧p0.lace=lace):=by rw [hp0]; exact⟨rfl,rfl,rfl,rfl,rfl⟩
 rw[← hp0] at hok hun huc hr HP HYes HNo HMR HMk ⊢
 clear hp0 hNN
 subst hcc hcn
 have H0:Hid (RT w #[.int .i64 hw,.int .i64 hh,.int .i64 hd,.int .i64 6,.bool lace,.slice ta tn tc,.slice ca 0 cc,.int .i64 rw',.int .i64 rh,.int .i64 rc,.int .i64 rd,.slice sa sn sc,.slice ka kn kc] #[.int .i64 hw,.int .i64 hh,.int .i64 hd,.int .i64 6,.bool lace] (((w.alloc (.cells #[.int .i64 hw,.int .i64 hh,.int .i64 hd,.int .i64 6,.bool lace,.slice ta tn tc,.slice ca 0 cc,.int .i64 rw',.int .i64 rh,.int .i64 rc,.int .i64 rd,.slice sa sn sc,.slice ka kn kc] 37)).alloc (.cells #[.int .i64 0,.int .i64 0,.int .i64 0,.int .i64 0,.bool false,.slice none 0 0,.slice none 0 0,.int .i64 0,.int .i64 0,.int .i64 0,.int .i64 0,.slice none 0 0,.slice none 0 0] 37)).alloc (.cells #[.int .i64 hw,.int .i64 hh,.int .i64 hd,.int .i64 6,.bool lace] 32))):=RT.start w _ _ _ rfl
 go_enter Tryz.func16,Tryz.ntmps16
 go_wp2_with fail
 refine (hwc _).mono ?_
 rintro e w1 ⟨rfl,rfl⟩
 clear hwc
 generalize ((w.alloc (.cells #[.int .i64 hw,.int .i64 hh,.int .i64 hd,.int .i64 6,.bool lace,.slice ta tn tc,.slice ca 0 cc,.int .i64 rw',.int .i64 rh,.int .i64 rc,.int .i64 rd,.slice sa sn sc,.slice ka kn kc] 37)).alloc (.cells #[.int .i64 0,.int .i64 0,.int .i64 0,.int .i64 0,.bool false,.slice none 0 0,.slice none 0 0,.int .i64 0,.int .i64 0,.int .i64 0,.int .i64 0,.slice none 0 0,.slice none 0 0] 37)).alloc (.cells #[.int .i64 hw,.int .i64 hh,.int .i64 hd,.int .i64 6,.bool lace] 32)=w1 at H0 ⊢
 have la:=block_lt H0.out.1.1
 obtain⟨a0,a1,a2,a3,a4,a5,a6,a7,a8,a9,a10,a11,a12⟩:=zqc H0.out.1.1
 go_wp2_with fail
 clear la a0 a1 a2 a3 a4 a5 a6 a7 a8 a9 a10 a11 a12
 refine (hok _ (HP.out.called H0.out.1.2.2)).mono ?_
 rintro e w2 ⟨b,rfl,hb,hB⟩
 have H1:=hid_of (H0.out.called hB)
 have HB:=hid_of hb
 clear hB hb H0 hok
 cases b
 ·have HN:=hid_of (HNo.out fun h=>by have:=HB.out.mpr h.1; cases this)
  obtain⟨⟨z0,z1,z2,z3,z4,z5,z6,z7,z8,z9,z10,z11,z12,y0,y1,y2,y3,y4,y5,y6,y7,y8,y9,y10,y11,y12⟩,yf,yl⟩:=H1.out.1.cells
  clear HYes HMk hun huc hr hch HB
  go_wp2_with fail
  refine bodyPost_ret (v:=.tuple #[.agg #[.int .i64 0,.int .i64 0,.int .i64 0,.int .i64 0,.bool false,.slice none 0 0,.slice none 0 0,.int .i64 0,.int .i64 0,.int .i64 0,.int .i64 0,.slice none 0 0,.slice none 0 0],.bool false]) ?_ rfl (HN.out _ ?_)
  ·simp[results,Tryz.results16,go_sem, *]
  ·exact H1.out.1.stored _ _ _ _ _ _ _ _ _ _ _ _ _ 
 have HM:=hid_of (HB.out.mp rfl)
 obtain⟨hR,hsn,hN576⟩:=HMR.out HM.out
 have hun1:=fun W h=>hun W h hR hsn
 have hr1:=fun ya yn yc W h=>hr ya yn yc W h hR
 clear HB HMR hun hr hR
 subst hsn
 go_wp2_with fail
 have HS0:RT w #[.int .i64 hw,.int .i64 hh,.int .i64 hd,.int .i64 6,.bool lace,.slice ta tn tc,.slice ca 0 cc,.int .i64 rw',.int .i64 rh,.int .i64 rc,.int .i64 rd,.slice sa (4 * N) sc,.slice ka kn kc] #[.int .i64 hw,.int .i64 hh,.int .i64 hd,.int .i64 6,.bool lace] w2.drew:=H1.out.called (bdraws (Below.refl _ _) 1)
 clear H1
 refine wp_region_held (S:=RT w #[.int .i64 hw,.int .i64 hh,.int .i64 hd,.int .i64 6,.bool lace,.slice ta tn tc,.slice ca 0 cc,.int .i64 rw',.int .i64 rh,.int .i64 rc,.int .i64 rd,.slice sa (4 * N) sc,.slice ka kn kc] #[.int .i64 hw,.int .i64 hh,.int .i64 hd,.int .i64 6,.bool lace]) (by kernel_rfl) ?_
 show wpAnyH _ _ _ _ _ _ _ _ w2.drew
 generalize w2.drew=u0 at HS0 ⊢
 refine zqt 0 (.pointer (some ⟨w.heap.size,7,none⟩)) rfl ?_ HS0 ?_
 ·intro w' _
  go_simp
 simp only [Act.put,zga,zgb,zsa,zsb,zsc]
 refine zqt 1 (.pointer (some ⟨w.heap.size,11,none⟩)) rfl ?_ HS0 ?_
 ·intro w' _
  go_simp
 simp only [Act.put,zga,zgb,zgc,zsa,zsb,zsc]
 refine zqt 2 (.slice sa (4 * N) sc) rfl ?_ HS0 ?_
 ·intro w' hS
  obtain⟨b0,b1,b2,b3,b4,b5,b6,b7,b8,b9,b10,b11,b12⟩:=zqc hS.1.1; have bl:=block_lt hS.1.1
  go_simp
 simp only [Act.put,zga,zgb,zgc,zsa,zsb,zsc]
 refine zqt 3 (.pointer (some ⟨w.heap.size+1+1,3,none⟩)) rfl ?_ HS0 ?_
 ·intro w' _
  go_simp
 simp only [Act.put,zga,zgb,zgc,zsa,zsb,zsc]
 refine zqt 4 (.int .i64 6) rfl ?_ HS0 ?_
 ·intro w' hS
  obtain⟨b0,b1,b2,b3,b4⟩:=zqf hS.2; have bl:=block_lt hS.2
  go_simp
 simp only [Act.put,zga,zgb,zgc,zsa,zsb,zsc]
 refine zqr 5 rfl (fun K1 hK=>?_)
 refine if_wanted (wanted_none rfl) ?_
 simp only [zga,zgb,zgc]
 go_simp
 refine (hch _).mono ?_
 rintro e u1 ⟨rfl,q⟩
 obtain rfl:=q
 refine hK.out _ _ HS0 (fun _=>?_)
 clear hK
 refine zqr 6 rfl (fun K1 hK=>?_)
 refine if_wanted (wanted_none rfl) ?_
 simp only [zga,zgb,zgc]
 go_simp
 refine (hun1 _ (HP.out.called HS0.1.2.2)).mono ?_
 rintro e u2 ⟨ok,a1,m1,c1,rfl,hok,hy,hB⟩
 have HT:=HS0.called hB
 refine hK.out _ _ HT (fun HS1=>?_)
 have HOK:=hid_of hok
 have HYY:Hid (ok=true→2 * N=m1∧SL u2 w.heap.size a1 (2 * N) c1 (tkF 4 2 2 S)∧2 * N≤c1∧c1≤maxLen):=fun h=>by
  have q:=hy h
  exact⟨q.1.symm,sl_low2 q.2.1 HS0.1.2.2.size,q.2.2⟩
 clear hK hB HT hok hy hun1
 refine zqt 7 (.tuple #[.slice a1 m1 c1,.bool ok]) rfl ?_ HS1 ?_
 ·intro w' _
  go_simp
 simp only [Act.put,zga,zgb,zgc,zsa,zsb,zsc]
 refine zqt 8 (.slice a1 m1 c1) rfl ?_ HS1 ?_
 ·intro w' _
  go_simp
 simp only [Act.put,zga,zgb,zgc,zsa,zsb,zsc]
 refine zqt 9 (.bool ok) rfl ?_ HS1 ?_
 ·intro w' _
  go_simp
 simp only [Act.put,zga,zgb,zgc,zsa,zsb,zsc]
 refine zqt 10 (.slice a1 m1 c1) rfl ?_ HS1 ?_
 ·intro w' _
  go_simp
 simp only [Act.put,zga,zgb,zgc,zsa,zsb,zsc]
 refine zqt 11 (.bool ok) rfl ?_ HS1 ?_
 ·intro w' _
  go_simp
 simp only [Act.put,zga,zgb,zgc,zsa,zsb,zsc]
 refine wpAnyH_done (by kernel_rfl) ?_ _
 have H2:=hid_of HS1
 clear HS1 HS0
 go_wp2_with fail
 have HS0:RT w #[.int .i64 hw,.int .i64 hh,.int .i64 hd,.int .i64 6,.bool lace,.slice ta tn tc,.slice ca 0 cc,.int .i64 rw',.int .i64 rh,.int .i64 rc,.int .i64 rd,.slice sa (4 * N) sc,.slice ka kn kc] #[.int .i64 hw,.int .i64 hh,.int .i64 hd,.int .i64 6,.bool lace] u2.drew:=H2.out.called (bdraws (Below.refl _ _) 1)
 have HYY2:Hid (ok=true→2 * N=m1∧SL u2.drew w.heap.size a1 (2 * N) c1 (tkF 4 2 2 S)∧2 * N≤c1∧c1≤maxLen):=fun h=>⟨(HYY.out h).1,(HYY.out h).2.1.called (bdraws (Below.refl _ _) 1),(HYY.out h).2.2⟩
 clear H2 HYY
 refine wp_region_held (S:=RT w #[.int .i64 hw,.int .i64 hh,.int .i64 hd,.int .i64 6,.bool lace,.slice ta tn tc,.slice ca 0 cc,.int .i64 rw',.int .i64 rh,.int .i64 rc,.int .i64 rd,.slice sa (4 * N) sc,.slice ka kn kc] #[.int .i64 hw,.int .i64 hh,.int .i64 hd,.int .i64 6,.bool lace]) (by kernel_rfl) ?_
 show wpAnyH _ _ _ _ _ _ _ _ u2.drew
 generalize u2.drew=u3 at HS0 HYY2 ⊢
 refine zqt 0 (.pointer (some ⟨w.heap.size,6,none⟩)) rfl ?_ HS0 ?_
 ·intro w' _
  go_simp
 simp only [Act.put,zga,zgb,zsa,zsb,zsc]
 refine zqt 1 (.slice ca 0 cc) rfl ?_ HS0 ?_
 ·intro w' hS
  obtain⟨b0,b1,b2,b3,b4,b5,b6,b7,b8,b9,b10,b11,b12⟩:=zqc hS.1.1; have bl:=block_lt hS.1.1
  go_simp
 simp only [Act.put,zga,zgb,zgc,zsa,zsb,zsc]
 refine zqt 2 (.pointer (some ⟨w.heap.size+1+1,3,none⟩)) rfl ?_ HS0 ?_
 ·intro w' _
  go_simp
 simp only [Act.put,zga,zgb,zgc,zsa,zsb,zsc]
 refine zqt 3 (.int .i64 6) rfl ?_ HS0 ?_
 ·intro w' hS
  obtain⟨b0,b1,b2,b3,b4⟩:=zqf hS.2; have bl:=block_lt hS.2
  go_simp
 simp only [Act.put,zga,zgb,zgc,zsa,zsb,zsc]
 refine zqr 4 rfl (fun K1 hK=>?_)
 refine if_wanted (wanted_none rfl) ?_
 simp only [zga,zgb,zgc]
 go_simp
 refine (hch _).mono ?_
 rintro e u4 ⟨rfl,q⟩
 obtain rfl:=q
 refine hK.out _ _ HS0 (fun _=>?_)
 clear hK hch
 refine zqr 5 rfl (fun K1 hK=>?_)
 refine if_wanted (wanted_none rfl) ?_
 simp only [zga,zgb,zgc]
 go_simp
 refine (huc _ (HP.out.called HS0.1.2.2)).mono ?_
 rintro e u5 ⟨ok2,a2,m2,c2,rfl,hok2,hy2,hB⟩
 have HT:=HS0.called hB
 refine hK.out _ _ HT (fun HS1=>?_)
 have HOK2:=hid_of hok2
 have HYZ:Hid (ok=true→ok2=true→2 * N=m1∧0=m2∧SL u5 w.heap.size a1 (2 * N) c1 (tkF 4 2 2 S)∧SL u5 w.heap.size a2 0 c2 (tkF 4 2 2 C)∧(0=0∨2 * N=0∨a2≠a1)∧2 * N≤c1∧c1≤maxLen):=fun h h2=>⟨(HYY2.out h).1,(hy2 h2).1.symm,(HYY2.out h).2.1.called hB,sl_low2 (hy2 h2).2.1 HS0.1.2.2.size,sl_apart (HYY2.out h).2.1 (hy2 h2).2.1,(HYY2.out h).2.2⟩
 clear hK hB HT hok2 hy2 huc HYY2
 refine zqt 6 (.tuple #[.slice a2 m2 c2,.bool ok2]) rfl ?_ HS1 ?_
 ·intro w' _
  go_simp
 simp only [Act.put,zga,zgb,zgc,zsa,zsb,zsc]
 refine zqt 7 (.slice a2 m2 c2) rfl ?_ HS1 ?_
 ·intro w' _
  go_simp
 simp only [Act.put,zga,zgb,zgc,zsa,zsb,zsc]
 refine zqt 8 (.bool ok2) rfl ?_ HS1 ?_
 ·intro w' _
  go_simp
 simp only [Act.put,zga,zgb,zgc,zsa,zsb,zsc]
 refine zqt 9 (.slice a2 m2 c2) rfl ?_ HS1 ?_
 ·intro w' _
  go_simp
 simp only [Act.put,zga,zgb,zgc,zsa,zsb,zsc]
 refine zqt 10 (.bool ok2) rfl ?_ HS1 ?_
 ·intro w' _
  go_simp
 simp only [Act.put,zga,zgb,zgc,zsa,zsb,zsc]
 refine wpAnyH_done (by kernel_rfl) ?_ _
 have H3:=hid_of HS1
 clear HS1 HS0
 cases ok
 ·have HN:=hid_of (HNo.out fun h=>by have:=HOK.out.mpr h.2.1; cases this)
  obtain⟨⟨z0,z1,z2,z3,z4,z5,z6,z7,z8,z9,z10,z11,z12,y0,y1,y2,y3,y4,y5,y6,y7,y8,y9,y10,y11,y12⟩,yf,yl⟩:=H3.out.1.cells
  clear HYes HMk hr1 HOK HOK2 HYZ
  go_wp2_with fail
  refine bodyPost_ret (v:=.tuple #[.agg #[.int .i64 0,.int .i64 0,.int .i64 0,.int .i64 0,.bool false,.slice none 0 0,.slice none 0 0,.int .i64 0,.int .i64 0,.int .i64 0,.int .i64 0,.slice none 0 0,.slice none 0 0],.bool false]) ?_ rfl (HN.out _ ?_)
  ·simp[results,Tryz.results16,go_sem, *]
  ·exact H3.out.1.stored _ _ _ _ _ _ _ _ _ _ _ _ _ 
 cases ok2
 ·have HN:=hid_of (HNo.out fun h=>by have:=HOK2.out.mpr h.2.2; cases this)
  obtain⟨⟨z0,z1,z2,z3,z4,z5,z6,z7,z8,z9,z10,z11,z12,y0,y1,y2,y3,y4,y5,y6,y7,y8,y9,y10,y11,y12⟩,yf,yl⟩:=H3.out.1.cells
  clear HYes HMk hr1 HOK HOK2 HYZ
  go_wp2_with fail
  refine bodyPost_ret (v:=.tuple #[.agg #[.int .i64 0,.int .i64 0,.int .i64 0,.int .i64 0,.bool false,.slice none 0 0,.slice none 0 0,.int .i64 0,.int .i64 0,.int .i64 0,.int .i64 0,.slice none 0 0,.slice none 0 0],.bool false]) ?_ rfl (HN.out _ ?_)
  ·simp[results,Tryz.results16,go_sem, *]
  ·exact H3.out.1.stored _ _ _ _ _ _ _ _ _ _ _ _ _ 
 obtain⟨rfl,rfl,hs1,hc1,hne,hcap1⟩:=HYZ.out rfl rfl
 have HY:=hid_of (HYes.out ⟨HM.out,HOK.out.mp rfl,HOK2.out.mp rfl⟩)
 have HSS:=hid_of hs1
 have HCC:=hid_of hc1
 have HNE:=hid_of hne
 have HCAP:=hid_of hcap1
 clear hs1 hc1 hne hcap1 HYZ HOK HOK2 HYes HNo HM
 have la:=block_lt H3.out.1.1
 obtain⟨a0,a1,a2,a3,a4,a5,a6,a7,a8,a9,a10,a11,a12⟩:=zqc H3.out.1.1
 have lh:=block_lt H3.out.2
 obtain⟨h0,h1,h2,h3,h4⟩:=zqf H3.out.2
 go_wp2_with fail
 clear la a0 a1 a2 a3 a4 a5 a6 a7 a8 a9 a10 a11 a12
 clear lh h0 h1 h2 h3 h4
 refine (hr1 a1 (2 * N) c1 _ (HP.out.called H3.out.1.2.2)).mono ?_
 rintro e w3 ⟨kk,kc1,he,hk,hB⟩
 simp only [HE.out.1,HE.out.2.1,HE.out.2.2.1,HE.out.2.2.2.1,HE.out.2.2.2.2] at he hk
 subst he
 have H4:Hid (WP w #[.int .i64 hw,.int .i64 hh,.int .i64 hd,.int .i64 6,.bool lace,.slice ta tn tc,.slice ca 0 cc,.int .i64 rw',.int .i64 rh,.int .i64 rc,.int .i64 rd,.slice sa (4 * N) sc,.slice ka kn kc] (withP p0 4 hd (2 * N) (tkF 4 2 2 S) 0 (tkF 4 2 2 C)) ⟨none,0,a2,c2,a1,c1,kk,kc1⟩ w3):=⟨H3.out.1.called hB,HMk.out _ _ _ _ _ _ _ (HSS.out.called hB) (HCC.out.called hB) (ksl_low2 hk H3.out.1.2.2.size) HNE.out HCAP.out⟩
 clear hB hk H3 HSS HCC HNE HCAP HMk hr1
 obtain⟨⟨z0,z1,z2,z3,z4,z5,z6,z7,z8,z9,z10,z11,z12,y0,y1,y2,y3,y4,y5,y6,y7,y8,y9,y10,y11,y12⟩,yf,yl⟩:=H4.out.m.cells
 have l0:=block_lt H4.out.m.1
 go_wp2_with fail
 refine bodyPost_ret (v:=.tuple #[.agg #[.int .i64 hw,.int .i64 hh,.int .i64 hd,.int .i64 4,.bool lace,.slice none 0 0,.slice a2 0 c2,.int .i64 hw,.int .i64 hh,.int .i64 4,.int .i64 hd,.slice a1 (2 * N) c1,.slice kk kn kc1],.bool true]) ?_ rfl (HY.out _ _ _ _ _ _ _ ?_ ?_)
 ·simp[results,Tryz.results16,go_sem, *]
 ·exact (H4.out.stored _ _ _ _ _ _ _ _ _ _ _ _ _ ).1.called (bstart _ _)
 ·exact bal (H4.out.stored _ _ _ _ _ _ _ _ _ _ _ _ _ ).2 _
set_option maxRecDepth 100000 in
set_option maxHeartbeats 6400000 in
theorem implCol_no (p:Pic) (q:PicA) (w:World) (hP:PngIn w p q) (hZ:PngSz p) (hno:¬ (MayR p∧(p.hc=2∨p.hc=6))):
  Calls Tryz.prog 16 #[pngV p q] w fun e w'=>e=.returned (.tuple #[noPng,.bool false])∧Below w.heap.size w w':=by
 have hok:=fun W h=>implMay p q W h hZ
 have hwc:=fun W=>withoutColor_any p.hc W
 have HP:=hid_of hP
 have HNN:Hid ((p.hc=2∨p.hc=6)→¬ MayR p):=fun h k=>hno ⟨k,h⟩
 clear hP hZ hno
 obtain⟨p0,hp0⟩:∃ p0,p0=p:=⟨_,rfl⟩
 obtain⟨hw,hh,hd,hc',lace,tn,T,cn,C,rw',rh,rc,rd,sn,S,kn,K⟩:=p
 obtain⟨ta,tc,ca,cc,sa,sc,ka,kc⟩:=q
 simp only [pngV] at hok hwc HNN ⊢
 rw[← hp0] at hok HP HNN
 clear hp0
 have H0:Hid (RT w #[.int .i64 hw,.int .i64 hh,.int .i64 hd,.int .i64 hc',.bool lace,.slice ta tn tc,.slice ca cn cc,.int .i64 rw',.int .i64 rh,.int .i64 rc,.int .i64 rd,.slice sa sn sc,.slice ka kn kc] #[.int .i64 hw,.int .i64 hh,.int .i64 hd,.int .i64 hc',.bool lace] (((w.alloc (.cells #[.int .i64 hw,.int .i64 hh,.int .i64 hd,.int .i64 hc',.bool lace,.slice ta tn tc,.slice ca cn cc,.int .i64 rw',.int .i64 rh,.int .i64 rc,.int .i64 rd,.slice sa sn sc,.slice ka kn kc] 37)).alloc (.cells #[.int .i64 0,.int .i64 0,.int .i64 0,.int .i64 0,.bool false,.slice none 0 0,.slice none 0 0,.int .i64 0,.int .i64 0,.int .i64 0,.int .i64 0,.slice none 0 0,.slice none 0 0] 37)).alloc (.cells #[.int .i64 hw,.int .i64 hh,.int .i64 hd,.int .i64 hc',.bool lace] 32))):=RT.start w _ _ _ rfl
 by_cases h46:hc'=2∨hc'=6
 ·rw[decide_eq_true h46] at hwc
  have HNM:=hid_of (HNN.out h46)
  generalize (if hc'=2 then (0:Int) else if hc'=6 then 4 else 0)=cz at hwc
  clear HNN h46
  go_enter Tryz.func16,Tryz.ntmps16
  go_wp2_with fail
  refine (hwc _).mono ?_
  rintro e w1 ⟨rfl,rfl⟩
  clear hwc
  generalize ((w.alloc (.cells #[.int .i64 hw,.int .i64 hh,.int .i64 hd,.int .i64 hc',.bool lace,.slice ta tn tc,.slice ca cn cc,.int .i64 rw',.int .i64 rh,.int .i64 rc,.int .i64 rd,.slice sa sn sc,.slice ka kn kc] 37)).alloc (.cells #[.int .i64 0,.int .i64 0,.int .i64 0,.int .i64 0,.bool false,.slice none 0 0,.slice none 0 0,.int .i64 0,.int .i64 0,.int .i64 0,.int .i64 0,.slice none 0 0,.slice none 0 0] 37)).alloc (.cells #[.int .i64 hw,.int .i64 hh,.int .i64 hd,.int .i64 hc',.bool lace] 32)=w1 at H0 ⊢
  have la:=block_lt H0.out.1.1
  obtain⟨a0,a1,a2,a3,a4,a5,a6,a7,a8,a9,a10,a11,a12⟩:=zqc H0.out.1.1
  go_wp2_with fail
  clear la a0 a1 a2 a3 a4 a5 a6 a7 a8 a9 a10 a11 a12
  refine (hok _ (HP.out.called H0.out.1.2.2)).mono ?_
  rintro e w2 ⟨b,rfl,hb,hB⟩
  have H1:=hid_of (H0.out.called hB)
  obtain rfl:b=false:=by
   cases b
   ·rfl
   ·exact absurd (hb.mp rfl) HNM.out
  clear hB hb H0 hok HNM
  obtain⟨⟨z0,z1,z2,z3,z4,z5,z6,z7,z8,z9,z10,z11,z12,y0,y1,y2,y3,y4,y5,y6,y7,y8,y9,y10,y11,y12⟩,yf,yl⟩:=H1.out.1.cells
  go_wp2_with fail
  refine bodyPost_ret (v:=.tuple #[.agg #[.int .i64 0,.int .i64 0,.int .i64 0,.int .i64 0,.bool false,.slice none 0 0,.slice none 0 0,.int .i64 0,.int .i64 0,.int .i64 0,.int .i64 0,.slice none 0 0,.slice none 0 0],.bool false]) ?_ rfl ⟨rfl,?_⟩
  ·simp[results,Tryz.results16,go_sem, *]
  ·exact H1.out.1.stored _ _ _ _ _ _ _ _ _ _ _ _ _ 
 ·rw[decide_eq_false h46] at hwc
  generalize (if hc'=2 then (0:Int) else if hc'=6 then 4 else 0)=cz at hwc
  clear HNN h46 hok
  go_enter Tryz.func16,Tryz.ntmps16
  go_wp2_with fail
  refine (hwc _).mono ?_
  rintro e w1 ⟨rfl,rfl⟩
  clear hwc
  generalize ((w.alloc (.cells #[.int .i64 hw,.int .i64 hh,.int .i64 hd,.int .i64 hc',.bool lace,.slice ta tn tc,.slice ca cn cc,.int .i64 rw',.int .i64 rh,.int .i64 rc,.int .i64 rd,.slice sa sn sc,.slice ka kn kc] 37)).alloc (.cells #[.int .i64 0,.int .i64 0,.int .i64 0,.int .i64 0,.bool false,.slice none 0 0,.slice none 0 0,.int .i64 0,.int .i64 0,.int .i64 0,.int .i64 0,.slice none 0 0,.slice none 0 0] 37)).alloc (.cells #[.int .i64 hw,.int .i64 hh,.int .i64 hd,.int .i64 hc',.bool lace] 32)=w1 at H0 ⊢
  obtain⟨⟨z0,z1,z2,z3,z4,z5,z6,z7,z8,z9,z10,z11,z12,y0,y1,y2,y3,y4,y5,y6,y7,y8,y9,y10,y11,y12⟩,yf,yl⟩:=H0.out.1.cells
  go_wp2_with fail
  refine bodyPost_ret (v:=.tuple #[.agg #[.int .i64 0,.int .i64 0,.int .i64 0,.int .i64 0,.bool false,.slice none 0 0,.slice none 0 0,.int .i64 0,.int .i64 0,.int .i64 0,.int .i64 0,.slice none 0 0,.slice none 0 0],.bool false]) ?_ rfl ⟨rfl,?_⟩
  ·simp[results,Tryz.results16,go_sem, *]
  ·exact H0.out.1.stored _ _ _ _ _ _ _ _ _ _ _ _ _ 
end Go.Proofs.YtkpbfmdnjnohlaaGreat
