/-
  Texts of the proof, put together.
-/
import Derived.Test.YtkpbfmdnjnohlaaGreatRd05
import Derived.Test.YtkpbfmdnjnohlaaGreatRd16
namespace Go.Proofs.YtkpbfmdnjnohlaaGreat
section
open Go.RowKit Go.Joins OutMath PutMath RastMath HeadMath ChunkMath
set_option maxRecDepth 100000 in
set_option maxHeartbeats 6400000 in
theorem specCpy (p:Pic) (q:PicA) (w:World) (hP:PngIn w p q) (hZ:PngSz p):
  Calls Tryz.prog 64 #[pngV p q] w (CpyPost p w):=by
 obtain⟨hw,hh,hd,hc',lace,tn,T,cn,C,rw',rh,rc,rd,sn,S,kn,K⟩:=p
 obtain⟨ta,tc,ca,cc,sa,sc,ka,kc⟩:=q
 simp only [pngV]
 have HT0:Hid (RgbCame w ta tn T):=hid_of hP.t
 have HC0:Hid (Came w ca cn C):=hid_of hP.c
 have HS0:Hid (Came w sa sn S):=hid_of hP.s
 have HK0:Hid (KCame w ka kn K):=hid_of hP.k
 have ht:tn≤1048576:=hZ.t
 have hc2:cn≤1048576:=hZ.c
 have hs2:sn≤1048576:=hZ.s
 have hk2:kn≤1048576:=hZ.k
 have hm2:∀ i,i < kn→(K i).1.size≤1048576∧(K i).2.size≤1048576:=hZ.m
 clear hP hZ
 have X0:Hid (WP w #[.int .i64 hw,.int .i64 hh,.int .i64 hd,.int .i64 hc',.bool lace,.slice ta tn tc,.slice ca cn cc,.int .i64 rw',.int .i64 rh,.int .i64 rc,.int .i64 rd,.slice sa sn sc,.slice ka kn kc] ⟨hw,hh,hd,hc',lace,0,T,0,C,rw',rh,rc,rd,0,S,0,K⟩ ⟨none,0,none,0,none,0,none,0⟩ ((w.alloc (.cells #[.int .i64 hw,.int .i64 hh,.int .i64 hd,.int .i64 hc',.bool lace,.slice ta tn tc,.slice ca cn cc,.int .i64 rw',.int .i64 rh,.int .i64 rc,.int .i64 rd,.slice sa sn sc,.slice ka kn kc] 37)).alloc (.cells #[.int .i64 0,.int .i64 0,.int .i64 0,.int .i64 0,.bool false,.slice none 0 0,.slice none 0 0,.int .i64 0,.int .i64 0,.int .i64 0,.int .i64 0,.slice none 0 0,.slice none 0 0] 37))):=⟨MoP.start w _ _ rfl,⟨.inl rfl,.inl rfl,.inl rfl,.inl rfl,.inl rfl,Nat.le_refl _,Nat.zero_le _⟩⟩
 go_enter Tryz.func64,Tryz.ntmps64
 go_wp2_with (at_builtin; refine copy_rgbs rfl _ _ rfl (by first | rfl | simp [Act.eval]) T ta tn tc rfl (HT0.out.called (bal X0.out.m.2.2 _)) ht ?_)
 rintro v1 w1 ⟨ta1,tc1,rfl,hT,hB⟩
 have X1:Hid (WP w #[.int .i64 hw,.int .i64 hh,.int .i64 hd,.int .i64 hc',.bool lace,.slice ta tn tc,.slice ca cn cc,.int .i64 rw',.int .i64 rh,.int .i64 rc,.int .i64 rd,.slice sa sn sc,.slice ka kn kc] ⟨hw,hh,hd,hc',lace,tn,T,0,C,rw',rh,rc,rd,0,S,0,K⟩ ⟨ta1,tc1,none,0,none,0,none,0⟩ w1):=⟨X0.out.m.called hB,⟨(hT.low X0.out.m.2.2.size),X0.out.l.c.called hB,X0.out.l.s.called hB,X0.out.l.k.called hB,.inr (.inl rfl),⟨Nat.le_refl _,Nat.zero_le _⟩⟩⟩
 clear hB X0
 clear hT
 have la:=block_lt X1.out.m.1
 obtain⟨a0,a1,a2,a3,a4,a5,a6,a7,a8,a9,a10,a11,a12⟩:=zqc X1.out.m.1
 have af:=unfrozen_of_block X1.out.m.1
 obtain⟨⟨z0,z1,z2,z3,z4,z5,z6,z7,z8,z9,z10,z11,z12,y0,y1,y2,y3,y4,y5,y6,y7,y8,y9,y10,y11,y12⟩,yf,yl⟩:=X1.out.m.cells
 have Y1:=hid_of (X1.out.arg 5 (.slice ta1 tn tc1))
 clear X1
 simp only [zsa,zsb,zsc] at Y1
 go_wp2_with (at_builtin; refine copy_ints rfl _ _ rfl (by first | rfl | simp [Act.eval]) C ca cn cc rfl (HC0.out.called (bal Y1.out.m.2.2 _)) hc2 ?_)
 rintro v2 w2 ⟨ca1,cc1,rfl,hC,hcap,hB⟩
 clear la a0 a1 a2 a3 a4 a5 a6 a7 a8 a9 a10 a11 a12
 clear af
 clear yf yl y0 y1 y2 y3 y4 y5 y6 y7 y8 y9 y10 y11 y12
 have X2:Hid (WP w #[.int .i64 hw,.int .i64 hh,.int .i64 hd,.int .i64 hc',.bool lace,.slice ta1 tn tc1,.slice ca cn cc,.int .i64 rw',.int .i64 rh,.int .i64 rc,.int .i64 rd,.slice sa sn sc,.slice ka kn kc] ⟨hw,hh,hd,hc',lace,tn,T,cn,C,rw',rh,rc,rd,0,S,0,K⟩ ⟨ta1,tc1,ca1,cc1,none,0,none,0⟩ w2):=⟨Y1.out.m.called hB,⟨Y1.out.l.t.called hB,(sl_low2 hC Y1.out.m.2.2.size),Y1.out.l.s.called hB,Y1.out.l.k.called hB,.inr (.inl rfl),⟨Nat.le_refl _,Nat.zero_le _⟩⟩⟩
 clear hB Y1 hcap
 clear hC
 have la:=block_lt X2.out.m.1
 obtain⟨a0,a1,a2,a3,a4,a5,a6,a7,a8,a9,a10,a11,a12⟩:=zqc X2.out.m.1
 have af:=unfrozen_of_block X2.out.m.1
 obtain⟨⟨z0,z1,z2,z3,z4,z5,z6,z7,z8,z9,z10,z11,z12,y0,y1,y2,y3,y4,y5,y6,y7,y8,y9,y10,y11,y12⟩,yf,yl⟩:=X2.out.m.cells
 have Y2:=hid_of (X2.out.arg 6 (.slice ca1 cn cc1))
 clear X2
 simp only [zsa,zsb,zsc] at Y2
 go_wp2_with fail
 refine (copyKept_big ka kn kc K _ (HK0.out.called Y2.out.m.2.2) hk2).mono ?_
 rintro e w3 ⟨ka1,kc1,rfl,hKK,hB⟩
 clear la a0 a1 a2 a3 a4 a5 a6 a7 a8 a9 a10 a11 a12
 clear af
 clear yf yl y0 y1 y2 y3 y4 y5 y6 y7 y8 y9 y10 y11 y12
 have X3:Hid (WP w #[.int .i64 hw,.int .i64 hh,.int .i64 hd,.int .i64 hc',.bool lace,.slice ta1 tn tc1,.slice ca1 cn cc1,.int .i64 rw',.int .i64 rh,.int .i64 rc,.int .i64 rd,.slice sa sn sc,.slice ka kn kc] ⟨hw,hh,hd,hc',lace,tn,T,cn,C,rw',rh,rc,rd,0,S,kn,K⟩ ⟨ta1,tc1,ca1,cc1,none,0,ka1,kc1⟩ w3):=⟨Y2.out.m.called hB,⟨Y2.out.l.t.called hB,Y2.out.l.c.called hB,Y2.out.l.s.called hB,(ksl_low2 hKK Y2.out.m.2.2.size),.inr (.inl rfl),⟨Nat.le_refl _,Nat.zero_le _⟩⟩⟩
 clear hB Y2
 clear hKK
 have la:=block_lt X3.out.m.1
 obtain⟨a0,a1,a2,a3,a4,a5,a6,a7,a8,a9,a10,a11,a12⟩:=zqc X3.out.m.1
 have af:=unfrozen_of_block X3.out.m.1
 obtain⟨⟨z0,z1,z2,z3,z4,z5,z6,z7,z8,z9,z10,z11,z12,y0,y1,y2,y3,y4,y5,y6,y7,y8,y9,y10,y11,y12⟩,yf,yl⟩:=X3.out.m.cells
 have Y3:=hid_of (X3.out.arg 12 (.slice ka1 kn kc1))
 clear X3
 simp only [zsa,zsb,zsc] at Y3
 go_wp2_with (at_builtin; refine copy_ints rfl _ _ rfl (by first | rfl | simp [Act.eval]) S sa sn sc rfl (HS0.out.called (bal Y3.out.m.2.2 _)) hs2 ?_)
 rintro v4 w4 ⟨sa1,sc1,rfl,hSS,hcap,hB⟩
 clear la a0 a1 a2 a3 a4 a5 a6 a7 a8 a9 a10 a11 a12
 clear af
 clear yf yl y0 y1 y2 y3 y4 y5 y6 y7 y8 y9 y10 y11 y12
 have X4:Hid (WP w #[.int .i64 hw,.int .i64 hh,.int .i64 hd,.int .i64 hc',.bool lace,.slice ta1 tn tc1,.slice ca1 cn cc1,.int .i64 rw',.int .i64 rh,.int .i64 rc,.int .i64 rd,.slice sa sn sc,.slice ka1 kn kc1] ⟨hw,hh,hd,hc',lace,tn,T,cn,C,rw',rh,rc,rd,sn,S,kn,K⟩ ⟨ta1,tc1,ca1,cc1,sa1,sc1,ka1,kc1⟩ w4):=⟨Y3.out.m.called hB,⟨Y3.out.l.t.called hB,Y3.out.l.c.called hB,(sl_low2 hSS Y3.out.m.2.2.size),Y3.out.l.k.called hB,(sl_apart0 (Y3.out.l.c) hSS),hcap⟩⟩
 clear hB Y3 hcap
 clear hSS
 have la:=block_lt X4.out.m.1
 obtain⟨a0,a1,a2,a3,a4,a5,a6,a7,a8,a9,a10,a11,a12⟩:=zqc X4.out.m.1
 have af:=unfrozen_of_block X4.out.m.1
 obtain⟨⟨z0,z1,z2,z3,z4,z5,z6,z7,z8,z9,z10,z11,z12,y0,y1,y2,y3,y4,y5,y6,y7,y8,y9,y10,y11,y12⟩,yf,yl⟩:=X4.out.m.cells
 go_wp2_with fail
 refine bodyPost_ret (v:=.agg #[.int .i64 hw,.int .i64 hh,.int .i64 hd,.int .i64 hc',.bool lace,.slice ta1 tn tc1,.slice ca1 cn cc1,.int .i64 rw',.int .i64 rh,.int .i64 rc,.int .i64 rd,.slice sa1 sn sc1,.slice ka1 kn kc1]) ?_ rfl ⟨⟨ta1,tc1,ca1,cc1,sa1,sc1,ka1,kc1⟩,rfl,?_,?_⟩
 ·simp[results,Tryz.results64,go_sem, *]
 ·exact ((X4.out.arg 11 (.slice sa1 sn sc1)).stored _ _ _ _ _ _ _ _ _ _ _ _ _).1
 ·exact ((X4.out.arg 11 (.slice sa1 sn sc1)).stored _ _ _ _ _ _ _ _ _ _ _ _ _).2
end
section
open Go.RowKit Go.Joins OutMath PutMath RastMath HeadMath ChunkMath
set_option maxRecDepth 100000 in
set_option maxHeartbeats 6400000 in
theorem implCpy (p:Pic) (q:PicA) (w:World) (hP:PngIn w p q) (hZ:PngSz p):
  Calls Tryz.prog 67 #[pngV p q] w (CpyPost p w):=by
 obtain⟨hw,hh,hd,hc',lace,tn,T,cn,C,rw',rh,rc,rd,sn,S,kn,K⟩:=p
 obtain⟨ta,tc,ca,cc,sa,sc,ka,kc⟩:=q
 simp only [pngV]
 have HT0:Hid (RgbCame w ta tn T):=hid_of hP.t
 have HC0:Hid (Came w ca cn C):=hid_of hP.c
 have HS0:Hid (Came w sa sn S):=hid_of hP.s
 have HK0:Hid (KCame w ka kn K):=hid_of hP.k
 have ht:tn≤1048576:=hZ.t
 have hc2:cn≤1048576:=hZ.c
 have hs2:sn≤1048576:=hZ.s
 have hk2:kn≤1048576:=hZ.k
 have hm2:∀ i,i < kn→(K i).1.size≤1048576∧(K i).2.size≤1048576:=hZ.m
 clear hP hZ
 have X0:Hid (WP w #[.int .i64 hw,.int .i64 hh,.int .i64 hd,.int .i64 hc',.bool lace,.slice ta tn tc,.slice ca cn cc,.int .i64 rw',.int .i64 rh,.int .i64 rc,.int .i64 rd,.slice sa sn sc,.slice ka kn kc] ⟨hw,hh,hd,hc',lace,0,T,0,C,rw',rh,rc,rd,0,S,0,K⟩ ⟨none,0,none,0,none,0,none,0⟩ ((w.alloc (.cells #[.int .i64 hw,.int .i64 hh,.int .i64 hd,.int .i64 hc',.bool lace,.slice ta tn tc,.slice ca cn cc,.int .i64 rw',.int .i64 rh,.int .i64 rc,.int .i64 rd,.slice sa sn sc,.slice ka kn kc] 37)).alloc (.cells #[.int .i64 0,.int .i64 0,.int .i64 0,.int .i64 0,.bool false,.slice none 0 0,.slice none 0 0,.int .i64 0,.int .i64 0,.int .i64 0,.int .i64 0,.slice none 0 0,.slice none 0 0] 37))):=⟨MoP.start w _ _ rfl,⟨.inl rfl,.inl rfl,.inl rfl,.inl rfl,.inl rfl,Nat.le_refl _,Nat.zero_le _⟩⟩
 go_enter Tryz.func67,Tryz.ntmps67
 go_wp2_with fail
 generalize (w.alloc (.cells #[.int .i64 hw,.int .i64 hh,.int .i64 hd,.int .i64 hc',.bool lace,.slice ta tn tc,.slice ca cn cc,.int .i64 rw',.int .i64 rh,.int .i64 rc,.int .i64 rd,.slice sa sn sc,.slice ka kn kc] 37)).alloc (.cells #[.int .i64 0,.int .i64 0,.int .i64 0,.int .i64 0,.bool false,.slice none 0 0,.slice none 0 0,.int .i64 0,.int .i64 0,.int .i64 0,.int .i64 0,.slice none 0 0,.slice none 0 0] 37)=w1 at X0 ⊢
 have X1:=hid_of (X0.out.called (bdraws (Below.refl _ _) 1))
 clear X0
 refine wp_region_late (S:=MoP w #[.int .i64 hw,.int .i64 hh,.int .i64 hd,.int .i64 hc',.bool lace,.slice ta tn tc,.slice ca cn cc,.int .i64 rw',.int .i64 rh,.int .i64 rc,.int .i64 rd,.slice sa sn sc,.slice ka kn kc]) (D:=10) (by kernel_rfl) ?_
 show wpLate _ _ _ _ _ _ _ _ _ w1.drew
 replace X1:Hid (WP w #[.int .i64 hw,.int .i64 hh,.int .i64 hd,.int .i64 hc',.bool lace,.slice ta tn tc,.slice ca cn cc,.int .i64 rw',.int .i64 rh,.int .i64 rc,.int .i64 rd,.slice sa sn sc,.slice ka kn kc] ⟨hw,hh,hd,hc',lace,0,T,0,C,rw',rh,rc,rd,0,S,0,K⟩ ⟨none,0,none,0,none,0,none,0⟩ w1.drew):=X1
 generalize w1.drew=u0 at X1 ⊢
 have HS:=X1.out.m
 refine wpLate_take (i:=0) (v:=.pointer (some ⟨w.heap.size,5,none⟩)) rfl (by kernel_rfl) (by kernel_rfl) (by kernel_rfl) (fun _ _ _ h=>h) (by kernel_rfl) (by decide) (by kernel_rfl) (Or.inl ⟨by rfl,?_⟩) HS ?_
 ·intro w' _
  go_simp
 simp only [Act.put,zga,zgb,zsa,zsb,zsc]
 refine wpLate_take (i:=1) (v:=.slice ta tn tc) rfl (by kernel_rfl) (by kernel_rfl) (by kernel_rfl) (fun _ _ _ h=>h) (by kernel_rfl) (by decide) (by kernel_rfl) (Or.inl ⟨by rfl,?_⟩) HS ?_
 ·intro w' hS
  obtain⟨b0,b1,b2,b3,b4,b5,b6,b7,b8,b9,b10,b11,b12⟩:=zqc hS.1; have bl:=block_lt hS.1
  go_simp
 simp only [Act.put,zga,zgb,zgc,zsa,zsb,zsc]
 refine wpLate_take (i:=3) (v:=.pointer (some ⟨w.heap.size,6,none⟩)) rfl (by kernel_rfl) (by kernel_rfl) (by kernel_rfl) (fun _ _ _ h=>h) (by kernel_rfl) (by decide) (by kernel_rfl) (Or.inl ⟨by rfl,?_⟩) HS ?_
 ·intro w' _
  go_simp
 simp only [Act.put,zga,zgb,zgc,zsa,zsb,zsc]
 refine wpLate_take (i:=4) (v:=.slice ca cn cc) rfl (by kernel_rfl) (by kernel_rfl) (by kernel_rfl) (fun _ _ _ h=>h) (by kernel_rfl) (by decide) (by kernel_rfl) (Or.inl ⟨by rfl,?_⟩) HS ?_
 ·intro w' hS
  obtain⟨b0,b1,b2,b3,b4,b5,b6,b7,b8,b9,b10,b11,b12⟩:=zqc hS.1; have bl:=block_lt hS.1
  go_simp
 simp only [Act.put,zga,zgb,zgc,zsa,zsb,zsc]
 refine wpLate_take (i:=6) (v:=.pointer (some ⟨w.heap.size,12,none⟩)) rfl (by kernel_rfl) (by kernel_rfl) (by kernel_rfl) (fun _ _ _ h=>h) (by kernel_rfl) (by decide) (by kernel_rfl) (Or.inl ⟨by rfl,?_⟩) HS ?_
 ·intro w' _
  go_simp
 simp only [Act.put,zga,zgb,zgc,zsa,zsb,zsc]
 refine wpLate_take (i:=7) (v:=.slice ka kn kc) rfl (by kernel_rfl) (by kernel_rfl) (by kernel_rfl) (fun _ _ _ h=>h) (by kernel_rfl) (by decide) (by kernel_rfl) (Or.inl ⟨by rfl,?_⟩) HS ?_
 ·intro w' hS
  obtain⟨b0,b1,b2,b3,b4,b5,b6,b7,b8,b9,b10,b11,b12⟩:=zqc hS.1; have bl:=block_lt hS.1
  go_simp
 simp only [Act.put,zga,zgb,zgc,zsa,zsb,zsc]
 refine wpLate_one (i:=2) (by kernel_rfl) rfl (fun K1 hK=>?_)
 refine if_wanted (wanted_none rfl) ?_
 simp only [zga,zgb,zgc]
 go_simp
 refine (cloneRgbs ta tn tc T _ (HT0.out.called HS.2.2) ht).mono ?_
 rintro e u1 ⟨_,rfl,ta1,tc1,rfl,hT,hB⟩
 have X2:Hid (WP w #[.int .i64 hw,.int .i64 hh,.int .i64 hd,.int .i64 hc',.bool lace,.slice ta tn tc,.slice ca cn cc,.int .i64 rw',.int .i64 rh,.int .i64 rc,.int .i64 rd,.slice sa sn sc,.slice ka kn kc] ⟨hw,hh,hd,hc',lace,tn,T,0,C,rw',rh,rc,rd,0,S,0,K⟩ ⟨ta1,tc1,none,0,none,0,none,0⟩ u1):=⟨X1.out.m.called hB,⟨(hT.low X1.out.m.2.2.size),X1.out.l.c.called hB,X1.out.l.s.called hB,X1.out.l.k.called hB,.inr (.inl rfl),⟨Nat.le_refl _,Nat.zero_le _⟩⟩⟩
 refine hK.out _ _ X2.out.m (fun HS=>?_)
 clear hK hT hB X1
 refine wpLate_take (i:=9) (v:=.pointer (some ⟨w.heap.size,5,none⟩)) rfl (by kernel_rfl) (by kernel_rfl) (by kernel_rfl) (fun _ _ _ h=>h) (by kernel_rfl) (by decide) (by kernel_rfl) (Or.inl ⟨by rfl,?_⟩) HS ?_
 ·intro w' _
  go_simp
 simp only [Act.put,zga,zgb,zgc,zsa,zsb,zsc]
 refine wpLate_one (i:=5) (by kernel_rfl) rfl (fun K1 hK=>?_)
 refine if_wanted (wanted_none rfl) ?_
 simp only [zga,zgb,zgc]
 go_simp
 refine (cloneInts ca cn cc C _ (HC0.out.called HS.2.2) hc2).mono ?_
 rintro e u2 ⟨_,rfl,ca1,cc1,rfl,hC,hcap,hB⟩
 have X3:Hid (WP w #[.int .i64 hw,.int .i64 hh,.int .i64 hd,.int .i64 hc',.bool lace,.slice ta tn tc,.slice ca cn cc,.int .i64 rw',.int .i64 rh,.int .i64 rc,.int .i64 rd,.slice sa sn sc,.slice ka kn kc] ⟨hw,hh,hd,hc',lace,tn,T,cn,C,rw',rh,rc,rd,0,S,0,K⟩ ⟨ta1,tc1,ca1,cc1,none,0,none,0⟩ u2):=⟨X2.out.m.called hB,⟨X2.out.l.t.called hB,(sl_low2 hC X2.out.m.2.2.size),X2.out.l.s.called hB,X2.out.l.k.called hB,.inr (.inl rfl),⟨Nat.le_refl _,Nat.zero_le _⟩⟩⟩
 refine hK.out _ _ X3.out.m (fun HS=>?_)
 clear hK hC hcap hB X2
 refine wpLate_one (i:=8) (by kernel_rfl) rfl (fun K1 hK=>?_)
 refine if_wanted (wanted_none rfl) ?_
 simp only [zga,zgb,zgc]
 go_simp
 refine (copiesOf_big ka kn kc K _ (HK0.out.called HS.2.2) hk2 hm2).mono ?_
 rintro e u3 ⟨ka1,kc1,rfl,hKK,hB⟩
 have X4:Hid (WP w #[.int .i64 hw,.int .i64 hh,.int .i64 hd,.int .i64 hc',.bool lace,.slice ta tn tc,.slice ca cn cc,.int .i64 rw',.int .i64 rh,.int .i64 rc,.int .i64 rd,.slice sa sn sc,.slice ka kn kc] ⟨hw,hh,hd,hc',lace,tn,T,cn,C,rw',rh,rc,rd,0,S,kn,K⟩ ⟨ta1,tc1,ca1,cc1,none,0,ka1,kc1⟩ u3):=⟨X3.out.m.called hB,⟨X3.out.l.t.called hB,X3.out.l.c.called hB,X3.out.l.s.called hB,(ksl_low2 hKK X3.out.m.2.2.size),.inr (.inl rfl),⟨Nat.le_refl _,Nat.zero_le _⟩⟩⟩
 refine hK.out _ _ X4.out.m (fun HS=>?_)
 clear hK hKK hB X3 HS
 have b5:=(cell_of_block X4.out.m.1 5).trans rfl
 have bf:=unfrozen_of_block X4.out.m.1
 have bl:=block_lt X4.out.m.1
 refine wpLate_end (i:=10) (by kernel_rfl) rfl (by kernel_rfl) (fun K1 hK=>?_)
 refine if_wanted (wanted_none rfl) ?_
 simp only [zga,zgb,zgc]
 go_simp
 refine hK.out _ _ ?_
 clear hK b5 bf bl
 have X5:=hid_of (X4.out.arg 5 (.slice ta1 tn tc1))
 simp only [zsa,zsb,zsc] at X5
 generalize u3.setCell ⟨w.heap.size,5,none⟩ (.slice ta1 tn tc1)=u4 at X5 ⊢
 clear X4
 refine wpLate_end (i:=11) (by kernel_rfl) rfl (by kernel_rfl) (fun K1 hK=>?_)
 refine if_wanted (wanted_none rfl) ?_
 simp only [zga,zgb,zgc]
 go_simp
 refine hK.out _ _ ?_
 clear hK
 have b6:=(cell_of_block X5.out.m.1 6).trans rfl
 have bf:=unfrozen_of_block X5.out.m.1
 have bl:=block_lt X5.out.m.1
 refine wpLate_end (i:=12) (by kernel_rfl) rfl (by kernel_rfl) (fun K1 hK=>?_)
 refine if_wanted (wanted_none rfl) ?_
 simp only [zga,zgb,zgc]
 go_simp
 refine hK.out _ _ ?_
 clear hK b6 bf bl
 have X6:=hid_of (X5.out.arg 6 (.slice ca1 cn cc1))
 simp only [zsa,zsb,zsc] at X6
 generalize u4.setCell ⟨w.heap.size,6,none⟩ (.slice ca1 cn cc1)=u5 at X6 ⊢
 clear X5
 refine wpLate_end (i:=13) (by kernel_rfl) rfl (by kernel_rfl) (fun K1 hK=>?_)
 refine if_wanted (wanted_none rfl) ?_
 simp only [zga,zgb,zgc]
 go_simp
 refine hK.out _ _ ?_
 clear hK
 have b12:=(cell_of_block X6.out.m.1 12).trans rfl
 have bf:=unfrozen_of_block X6.out.m.1
 have bl:=block_lt X6.out.m.1
 refine wpLate_end (i:=14) (by kernel_rfl) rfl (by kernel_rfl) (fun K1 hK=>?_)
 refine if_wanted (wanted_none rfl) ?_
 simp only [zga,zgb,zgc]
 go_simp
 refine hK.out _ _ ?_
 clear hK b12 bf bl
 have X7:=hid_of (X6.out.arg 12 (.slice ka1 kn kc1))
 simp only [zsa,zsb,zsc] at X7
 generalize u5.setCell ⟨w.heap.size,12,none⟩ (.slice ka1 kn kc1)=u6 at X7 ⊢
 clear X6
 refine wpLate_done (by kernel_rfl) ?_ _
 have la:=block_lt X7.out.m.1
 obtain⟨a0,a1,a2,a3,a4,a5,a6,a7,a8,a9,a10,a11,a12⟩:=zqc X7.out.m.1
 go_wp2_with fail
 clear la a0 a1 a2 a3 a4 a5 a6 a7 a8 a9 a10 a11 a12
 refine (cloneInts sa sn sc S _ (HS0.out.called X7.out.m.2.2) hs2).mono ?_
 rintro e w7 ⟨_,rfl,sa1,sc1,rfl,hSS,hcap,hB⟩
 have X8:Hid (WP w #[.int .i64 hw,.int .i64 hh,.int .i64 hd,.int .i64 hc',.bool lace,.slice ta1 tn tc1,.slice ca1 cn cc1,.int .i64 rw',.int .i64 rh,.int .i64 rc,.int .i64 rd,.slice sa sn sc,.slice ka1 kn kc1] ⟨hw,hh,hd,hc',lace,tn,T,cn,C,rw',rh,rc,rd,sn,S,kn,K⟩ ⟨ta1,tc1,ca1,cc1,sa1,sc1,ka1,kc1⟩ w7):=⟨X7.out.m.called hB,⟨X7.out.l.t.called hB,X7.out.l.c.called hB,(sl_low2 hSS X7.out.m.2.2.size),X7.out.l.k.called hB,(sl_apart0 (X7.out.l.c) hSS),hcap⟩⟩
 clear hB hSS hcap X7
 have la:=block_lt X8.out.m.1
 obtain⟨a0,a1,a2,a3,a4,a5,a6,a7,a8,a9,a10,a11,a12⟩:=zqc X8.out.m.1
 have af:=unfrozen_of_block X8.out.m.1
 obtain⟨⟨z0,z1,z2,z3,z4,z5,z6,z7,z8,z9,z10,z11,z12,y0,y1,y2,y3,y4,y5,y6,y7,y8,y9,y10,y11,y12⟩,yf,yl⟩:=X8.out.m.cells
 go_wp2_with fail
 refine bodyPost_ret (v:=.agg #[.int .i64 hw,.int .i64 hh,.int .i64 hd,.int .i64 hc',.bool lace,.slice ta1 tn tc1,.slice ca1 cn cc1,.int .i64 rw',.int .i64 rh,.int .i64 rc,.int .i64 rd,.slice sa1 sn sc1,.slice ka1 kn kc1]) ?_ rfl ⟨⟨ta1,tc1,ca1,cc1,sa1,sc1,ka1,kc1⟩,rfl,?_,?_⟩
 ·simp[results,Tryz.results67,go_sem, *]
 ·exact ((X8.out.arg 11 (.slice sa1 sn sc1)).stored _ _ _ _ _ _ _ _ _ _ _ _ _).1
 ·exact ((X8.out.arg 11 (.slice sa1 sn sc1)).stored _ _ _ _ _ _ _ _ _ _ _ _ _).2
end
end Go.Proofs.YtkpbfmdnjnohlaaGreat
