/-
  Texts of the proof, put together.
-/
import Derived.Test.YtkpbfmdnjnohlaaGreatRd21
import Derived.Test.YtkpbfmdnjnohlaaGreatRd23
import Derived.Test.YtkpbfmdnjnohlaaGreatRd14
namespace Go.Proofs.YtkpbfmdnjnohlaaGreat
open Go.RowKit Go.Joins OutMath PutMath RastMath HeadMath ChunkMath
theorem PBox.drew {w W:World} {A:Array Value} (h:PBox w W A):PBox w W.drew A:=h.called (bdraws (Below.refl _ _) 1)
set_option maxRecDepth 100000 in
set_option maxHeartbeats 6400000 in
theorem implPngOk (p:Pic) (q:PicA) (w:World) (hP:PngIn w p q) (hZ:PngSz p):
  Calls Tryz.prog 74 #[pngV p q] w (PngPost p w):=by
 obtain⟨hw,hh,hd,hc',lace,tn,T,cn,C,rw',rh,rc,rd,sn,S,kn,K⟩:=p
 obtain⟨ta,tc,ca,cc,sa,sc,ka,kc⟩:=q
 have HT:Hid (RgbCame w ta tn T):=hid_of hP.t
 have HC:Hid (Came w ca cn C):=hid_of hP.c
 have HS:Hid (Came w sa sn S):=hid_of hP.s
 have HK:Hid (KCame w ka kn K):=hid_of hP.k
 have HCP:Hid (sn≤sc∧sc≤maxLen):=hid_of hP.capped
 have ht':tn≤1048576:=hZ.t
 have hc2:cn≤1048576:=hZ.c
 have hs':sn≤1048576:=hZ.s
 have hk':kn≤1048576:=hZ.k
 have HM:Hid (∀ i,i < kn→(K i).2.size≤1048576):=fun i hi=>(hZ.m i hi).2
 clear hP hZ
 suffices hsuf:∀ p0:Pic,(PngR p0↔PngR ⟨hw,hh,hd,hc',lace,tn,T,cn,C,rw',rh,rc,rd,sn,S,kn,K⟩)→Calls Tryz.prog 74 #[.agg #[.int .i64 hw,.int .i64 hh,.int .i64 hd,.int .i64 hc',.bool lace,.slice ta tn tc,.slice ca cn cc,.int .i64 rw',.int .i64 rh,.int .i64 rc,.int .i64 rd,.slice sa sn sc,.slice ka kn kc]] w (PngPost p0 w) from hsuf _ Iff.rfl
 intro p0 hp0
 have HR:Hid (PngR p0↔(HeadR hw hh hd hc'∧RasR rw' rh rc rd sn S∧rw'=hw∧rh=hh∧rc=hc'∧rd=hd)∧FitsR hc' hd tn T∧ClrR hd hc' tn cn C∧InR hc' tn sn S∧KeptR kn K):=hp0
 have HNo:Hid (¬ PngR p0→∀ W,Below w.heap.size w W→PngPost p0 w (.returned (.bool false)) W):=fun h W b=>png_no h b
 have HYes:Hid (PngR p0→∀ W,Below w.heap.size w W→PngPost p0 w (.returned (.bool true)) W):=fun h W b=>png_yes h b
 clear hp0
 by_cases hA:HeadR hw hh hd hc'
 case neg=>
  have HN:=hid_of (HNo.out fun h=>hA (HR.out.mp h).1.1)
  have hhd:=fun W=>implHeadOk hw hh hd hc' lace W
  simp only [decide_eq_false hA] at hhd
  clear HNo HYes HR hA
  have HX:Hid (PBox w (w.alloc (.cells #[.int .i64 hw,.int .i64 hh,.int .i64 hd,.int .i64 hc',.bool lace,.slice ta tn tc,.slice ca cn cc,.int .i64 rw',.int .i64 rh,.int .i64 rc,.int .i64 rd,.slice sa sn sc,.slice ka kn kc] 37)) #[.int .i64 hw,.int .i64 hh,.int .i64 hd,.int .i64 hc',.bool lace,.slice ta tn tc,.slice ca cn cc,.int .i64 rw',.int .i64 rh,.int .i64 rc,.int .i64 rd,.slice sa sn sc,.slice ka kn kc]):=⟨heap_alloc_new w _,bstart w _⟩
  have l0:=block_lt HX.out.1
  obtain⟨a0,a1,a2,a3,a4,a5,a6,a7,a8,a9,a10,a11,a12⟩:=zqc HX.out.1
  go_enter Tryz.func74,Tryz.ntmps74
  go_wp2_with fail
  have HS0:PBox w (w.alloc (.cells #[.int .i64 hw,.int .i64 hh,.int .i64 hd,.int .i64 hc',.bool lace,.slice ta tn tc,.slice ca cn cc,.int .i64 rw',.int .i64 rh,.int .i64 rc,.int .i64 rd,.slice sa sn sc,.slice ka kn kc] 37)).drew #[.int .i64 hw,.int .i64 hh,.int .i64 hd,.int .i64 hc',.bool lace,.slice ta tn tc,.slice ca cn cc,.int .i64 rw',.int .i64 rh,.int .i64 rc,.int .i64 rd,.slice sa sn sc,.slice ka kn kc]:=HX.out.drew
  clear HX l0 a0 a1 a2 a3 a4 a5 a6 a7 a8 a9 a10 a11 a12
  refine wp_region_held (S:=fun u=>PBox w u #[.int .i64 hw,.int .i64 hh,.int .i64 hd,.int .i64 hc',.bool lace,.slice ta tn tc,.slice ca cn cc,.int .i64 rw',.int .i64 rh,.int .i64 rc,.int .i64 rd,.slice sa sn sc,.slice ka kn kc]) (by kernel_rfl) ?_
  show wpAnyH _ _ _ _ _ _ _ _ (w.alloc _).drew
  generalize (w.alloc _).drew=u0 at HS0 ⊢
  refine zqt 0 (.pointer (some ⟨w.heap.size,0,none⟩)) rfl ?_ HS0 ?_
  ·intro w' _
   go_simp
  simp only [Act.put,zga,zgb,zsa,zsb,zsc]
  refine zqt 1 (.agg #[.int .i64 hw,.int .i64 hh,.int .i64 hd,.int .i64 hc',.bool lace]) rfl ?_ HS0 ?_
  ·intro w' hS
   obtain⟨c0,c1,c2,c3,c4,c5,c6,c7,c8,c9,c10,c11,c12⟩:=zqc hS.1; have cl:=block_lt hS.1
   go_simp
  simp only [Act.put,zga,zgb,zgc,zsa,zsb,zsc]
  refine zqr 2 rfl (fun K hK=>?_)
  refine if_wanted (wanted_none rfl) ?_
  simp only [zga,zgb,zgc]
  go_simp
  refine (hhd _).mono ?_
  rintro e u1 ⟨rfl,hB⟩
  have HT:=HS0.called hB
  refine hK.out _ _ HT (fun HS1=>?_)
  clear hK K hB HT
  refine zqt 3 (.bool true) rfl ?_ HS1 ?_
  ·intro w' _
   go_simp
  simp only [Act.put,zga,zgb,zgc,zsa,zsb,zsc]
  refine zqt 4 (.bool true) rfl ?_ HS1 ?_
  ·intro w' _
   go_simp
  simp only [Act.put,zga,zgb,zgc,zsa,zsb,zsc]
  refine zqu 5 rfl HS1 ?_
  simp only [Act.put,zga,zgb,zgc,zsa,zsb,zsc]
  refine zqu 6 rfl HS1 ?_
  simp only [Act.put,zga,zgb,zgc,zsa,zsb,zsc]
  refine zqu 7 rfl HS1 ?_
  simp only [Act.put,zga,zgb,zgc,zsa,zsb,zsc]
  refine zqu 8 rfl HS1 ?_
  simp only [Act.put,zga,zgb,zgc,zsa,zsb,zsc]
  refine zqt 9 (.bool true) rfl ?_ HS1 ?_
  ·intro w' _
   go_simp
  simp only [Act.put,zga,zgb,zgc,zsa,zsb,zsc]
  refine zqt 10 (.bool true) rfl ?_ HS1 ?_
  ·intro w' _
   go_simp
  simp only [Act.put,zga,zgb,zgc,zsa,zsb,zsc]
  refine zqu 11 rfl HS1 ?_
  simp only [Act.put,zga,zgb,zgc,zsa,zsb,zsc]
  refine zqu 12 rfl HS1 ?_
  simp only [Act.put,zga,zgb,zgc,zsa,zsb,zsc]
  refine zqu 13 rfl HS1 ?_
  simp only [Act.put,zga,zgb,zgc,zsa,zsb,zsc]
  refine zqu 14 rfl HS1 ?_
  simp only [Act.put,zga,zgb,zgc,zsa,zsb,zsc]
  refine zqu 15 rfl HS1 ?_
  simp only [Act.put,zga,zgb,zgc,zsa,zsb,zsc]
  refine zqu 16 rfl HS1 ?_
  simp only [Act.put,zga,zgb,zgc,zsa,zsb,zsc]
  refine zqu 17 rfl HS1 ?_
  simp only [Act.put,zga,zgb,zgc,zsa,zsb,zsc]
  refine zqt 18 (.bool true) rfl ?_ HS1 ?_
  ·intro w' _
   go_simp
  simp only [Act.put,zga,zgb,zgc,zsa,zsb,zsc]
  refine wpAnyH_done (by kernel_rfl) ?_ _
  have HX:=hid_of HS1
  clear HS1
  have l0:=block_lt HX.out.1
  obtain⟨a0,a1,a2,a3,a4,a5,a6,a7,a8,a9,a10,a11,a12⟩:=zqc HX.out.1
  go_wp2_with fail
  go_ret
  exact HN.out _ HX.out.2
 have hhd:=fun W=>implHeadOk hw hh hd hc' lace W
 simp only [decide_eq_true hA] at hhd
 obtain⟨d,hd',hd16⟩:∃ d:Nat,hd=(d:Int)∧d≤16:=by
  have:=five_range (depth_five hA.2.2)
  exact⟨hd.toNat,by omega,by omega⟩
 subst hd'
 have HA:=hid_of hA
 clear hA
 by_cases hB0:RasR rw' rh rc rd sn S
 case neg=>
  have HN:=hid_of (HNo.out fun h=>hB0 (HR.out.mp h).1.2.1)
  have HQ:=hid_of hB0
  clear HNo HYes HR hB0
  have HX:Hid (PBox w (w.alloc (.cells #[.int .i64 hw,.int .i64 hh,.int .i64 (d:Int),.int .i64 hc',.bool lace,.slice ta tn tc,.slice ca cn cc,.int .i64 rw',.int .i64 rh,.int .i64 rc,.int .i64 rd,.slice sa sn sc,.slice ka kn kc] 37)) #[.int .i64 hw,.int .i64 hh,.int .i64 (d:Int),.int .i64 hc',.bool lace,.slice ta tn tc,.slice ca cn cc,.int .i64 rw',.int .i64 rh,.int .i64 rc,.int .i64 rd,.slice sa sn sc,.slice ka kn kc]):=⟨heap_alloc_new w _,bstart w _⟩
  have l0:=block_lt HX.out.1
  obtain⟨a0,a1,a2,a3,a4,a5,a6,a7,a8,a9,a10,a11,a12⟩:=zqc HX.out.1
  go_enter Tryz.func74,Tryz.ntmps74
  go_wp2_with fail
  have HS0:PBox w (w.alloc (.cells #[.int .i64 hw,.int .i64 hh,.int .i64 (d:Int),.int .i64 hc',.bool lace,.slice ta tn tc,.slice ca cn cc,.int .i64 rw',.int .i64 rh,.int .i64 rc,.int .i64 rd,.slice sa sn sc,.slice ka kn kc] 37)).drew #[.int .i64 hw,.int .i64 hh,.int .i64 (d:Int),.int .i64 hc',.bool lace,.slice ta tn tc,.slice ca cn cc,.int .i64 rw',.int .i64 rh,.int .i64 rc,.int .i64 rd,.slice sa sn sc,.slice ka kn kc]:=HX.out.drew
  clear HX l0 a0 a1 a2 a3 a4 a5 a6 a7 a8 a9 a10 a11 a12
  refine wp_region_held (S:=fun u=>PBox w u #[.int .i64 hw,.int .i64 hh,.int .i64 (d:Int),.int .i64 hc',.bool lace,.slice ta tn tc,.slice ca cn cc,.int .i64 rw',.int .i64 rh,.int .i64 rc,.int .i64 rd,.slice sa sn sc,.slice ka kn kc]) (by kernel_rfl) ?_
  show wpAnyH _ _ _ _ _ _ _ _ (w.alloc _).drew
  generalize (w.alloc _).drew=u0 at HS0 ⊢
  refine zqt 0 (.pointer (some ⟨w.heap.size,0,none⟩)) rfl ?_ HS0 ?_
  ·intro w' _
   go_simp
  simp only [Act.put,zga,zgb,zsa,zsb,zsc]
  refine zqt 1 (.agg #[.int .i64 hw,.int .i64 hh,.int .i64 (d:Int),.int .i64 hc',.bool lace]) rfl ?_ HS0 ?_
  ·intro w' hS
   obtain⟨c0,c1,c2,c3,c4,c5,c6,c7,c8,c9,c10,c11,c12⟩:=zqc hS.1; have cl:=block_lt hS.1
   go_simp
  simp only [Act.put,zga,zgb,zgc,zsa,zsb,zsc]
  refine zqr 2 rfl (fun K hK=>?_)
  refine if_wanted (wanted_none rfl) ?_
  simp only [zga,zgb,zgc]
  go_simp
  refine (hhd _).mono ?_
  rintro e u1 ⟨rfl,hB⟩
  have HT:=HS0.called hB
  refine hK.out _ _ HT (fun HS1=>?_)
  clear hK K hB HT
  refine zqt 3 (.bool false) rfl ?_ HS1 ?_
  ·intro w' _
   go_simp
  simp only [Act.put,zga,zgb,zgc,zsa,zsb,zsc]
  refine zqt 4 (.bool false) rfl ?_ HS1 ?_
  ·intro w' _
   go_simp
  simp only [Act.put,zga,zgb,zgc,zsa,zsb,zsc]
  refine zqt 5 (.pointer (some ⟨w.heap.size,7,none⟩)) rfl ?_ HS1 ?_
  ·intro w' _
   go_simp
  simp only [Act.put,zga,zgb,zgc,zsa,zsb,zsc]
  refine zqt 6 (.agg #[.int .i64 rw',.int .i64 rh,.int .i64 rc,.int .i64 rd,.slice sa sn sc]) rfl ?_ HS1 ?_
  ·intro w' hS
   obtain⟨c0,c1,c2,c3,c4,c5,c6,c7,c8,c9,c10,c11,c12⟩:=zqc hS.1; have cl:=block_lt hS.1
   go_simp
  simp only [Act.put,zga,zgb,zgc,zsa,zsb,zsc]
  refine zqr 7 rfl (fun K hK=>?_)
  refine if_wanted (wanted_yes rfl rfl) ?_
  simp only [zga,zgb,zgc]
  go_simp
  refine (implRaster rw' rh rc rd sa sn sc S _ (HS.out.called HS1.2) hs' HCP.out.1 HCP.out.2).mono ?_
  rintro e u2 ⟨b,rfl,hb,hB⟩
  obtain rfl:=flag_false hb HQ.out; clear hb
  have HT:=HS1.called hB
  refine hK.out _ _ HT (fun HS2=>?_)
  clear hK K hB HT
  refine zqt 8 (.bool true) rfl ?_ HS2 ?_
  ·intro w' _
   go_simp
  simp only [Act.put,zga,zgb,zgc,zsa,zsb,zsc]
  refine zqt 9 (.bool true) rfl ?_ HS2 ?_
  ·intro w' _
   go_simp
  simp only [Act.put,zga,zgb,zgc,zsa,zsb,zsc]
  refine zqt 10 (.bool true) rfl ?_ HS2 ?_
  ·intro w' _
   go_simp
  simp only [Act.put,zga,zgb,zgc,zsa,zsb,zsc]
  refine zqu 11 rfl HS2 ?_
  simp only [Act.put,zga,zgb,zgc,zsa,zsb,zsc]
  refine zqu 12 rfl HS2 ?_
  simp only [Act.put,zga,zgb,zgc,zsa,zsb,zsc]
  refine zqu 13 rfl HS2 ?_
  simp only [Act.put,zga,zgb,zgc,zsa,zsb,zsc]
  refine zqu 14 rfl HS2 ?_
  simp only [Act.put,zga,zgb,zgc,zsa,zsb,zsc]
  refine zqu 15 rfl HS2 ?_
  simp only [Act.put,zga,zgb,zgc,zsa,zsb,zsc]
  refine zqu 16 rfl HS2 ?_
  simp only [Act.put,zga,zgb,zgc,zsa,zsb,zsc]
  refine zqu 17 rfl HS2 ?_
  simp only [Act.put,zga,zgb,zgc,zsa,zsb,zsc]
  refine zqt 18 (.bool true) rfl ?_ HS2 ?_
  ·intro w' _
   go_simp
  simp only [Act.put,zga,zgb,zgc,zsa,zsb,zsc]
  refine wpAnyH_done (by kernel_rfl) ?_ _
  have HX:=hid_of HS2
  clear HS2
  have l0:=block_lt HX.out.1
  obtain⟨a0,a1,a2,a3,a4,a5,a6,a7,a8,a9,a10,a11,a12⟩:=zqc HX.out.1
  go_wp2_with fail
  go_ret
  exact HN.out _ HX.out.2
 have HB0:=hid_of hB0
 clear hB0
 have hsh:=fun W=>hasShape_any rw' rh rc rd hw hh hc' (d:Int) (.slice sa sn sc) (.slice none 0 0) W
 by_cases hE:rw'=hw∧rh=hh∧rc=hc'∧rd=(d:Int)
 case neg=>
  have HN:=hid_of (HNo.out fun h=>hE (HR.out.mp h).1.2.2)
  simp only [decide_eq_false hE] at hsh
  clear HNo HYes HR hE
  have HX:Hid (PBox w (w.alloc (.cells #[.int .i64 hw,.int .i64 hh,.int .i64 (d:Int),.int .i64 hc',.bool lace,.slice ta tn tc,.slice ca cn cc,.int .i64 rw',.int .i64 rh,.int .i64 rc,.int .i64 rd,.slice sa sn sc,.slice ka kn kc] 37)) #[.int .i64 hw,.int .i64 hh,.int .i64 (d:Int),.int .i64 hc',.bool lace,.slice ta tn tc,.slice ca cn cc,.int .i64 rw',.int .i64 rh,.int .i64 rc,.int .i64 rd,.slice sa sn sc,.slice ka kn kc]):=⟨heap_alloc_new w _,bstart w _⟩
  have l0:=block_lt HX.out.1
  obtain⟨a0,a1,a2,a3,a4,a5,a6,a7,a8,a9,a10,a11,a12⟩:=zqc HX.out.1
  go_enter Tryz.func74,Tryz.ntmps74
  go_wp2_with fail
  have HS0:PBox w (w.alloc (.cells #[.int .i64 hw,.int .i64 hh,.int .i64 (d:Int),.int .i64 hc',.bool lace,.slice ta tn tc,.slice ca cn cc,.int .i64 rw',.int .i64 rh,.int .i64 rc,.int .i64 rd,.slice sa sn sc,.slice ka kn kc] 37)).drew #[.int .i64 hw,.int .i64 hh,.int .i64 (d:Int),.int .i64 hc',.bool lace,.slice ta tn tc,.slice ca cn cc,.int .i64 rw',.int .i64 rh,.int .i64 rc,.int .i64 rd,.slice sa sn sc,.slice ka kn kc]:=HX.out.drew
  clear HX l0 a0 a1 a2 a3 a4 a5 a6 a7 a8 a9 a10 a11 a12
  refine wp_region_held (S:=fun u=>PBox w u #[.int .i64 hw,.int .i64 hh,.int .i64 (d:Int),.int .i64 hc',.bool lace,.slice ta tn tc,.slice ca cn cc,.int .i64 rw',.int .i64 rh,.int .i64 rc,.int .i64 rd,.slice sa sn sc,.slice ka kn kc]) (by kernel_rfl) ?_
  show wpAnyH _ _ _ _ _ _ _ _ (w.alloc _).drew
  generalize (w.alloc _).drew=u0 at HS0 ⊢
  refine zqt 0 (.pointer (some ⟨w.heap.size,0,none⟩)) rfl ?_ HS0 ?_
  ·intro w' _
   go_simp
  simp only [Act.put,zga,zgb,zsa,zsb,zsc]
  refine zqt 1 (.agg #[.int .i64 hw,.int .i64 hh,.int .i64 (d:Int),.int .i64 hc',.bool lace]) rfl ?_ HS0 ?_
  ·intro w' hS
   obtain⟨c0,c1,c2,c3,c4,c5,c6,c7,c8,c9,c10,c11,c12⟩:=zqc hS.1; have cl:=block_lt hS.1
   go_simp
  simp only [Act.put,zga,zgb,zgc,zsa,zsb,zsc]
  refine zqr 2 rfl (fun K hK=>?_)
  refine if_wanted (wanted_none rfl) ?_
  simp only [zga,zgb,zgc]
  go_simp
  refine (hhd _).mono ?_
  rintro e u1 ⟨rfl,hB⟩
  have HT:=HS0.called hB
  refine hK.out _ _ HT (fun HS1=>?_)
  clear hK K hB HT
  refine zqt 3 (.bool false) rfl ?_ HS1 ?_
  ·intro w' _
   go_simp
  simp only [Act.put,zga,zgb,zgc,zsa,zsb,zsc]
  refine zqt 4 (.bool false) rfl ?_ HS1 ?_
  ·intro w' _
   go_simp
  simp only [Act.put,zga,zgb,zgc,zsa,zsb,zsc]
  refine zqt 5 (.pointer (some ⟨w.heap.size,7,none⟩)) rfl ?_ HS1 ?_
  ·intro w' _
   go_simp
  simp only [Act.put,zga,zgb,zgc,zsa,zsb,zsc]
  refine zqt 6 (.agg #[.int .i64 rw',.int .i64 rh,.int .i64 rc,.int .i64 rd,.slice sa sn sc]) rfl ?_ HS1 ?_
  ·intro w' hS
   obtain⟨c0,c1,c2,c3,c4,c5,c6,c7,c8,c9,c10,c11,c12⟩:=zqc hS.1; have cl:=block_lt hS.1
   go_simp
  simp only [Act.put,zga,zgb,zgc,zsa,zsb,zsc]
  refine zqr 7 rfl (fun K hK=>?_)
  refine if_wanted (wanted_yes rfl rfl) ?_
  simp only [zga,zgb,zgc]
  go_simp
  refine (implRaster rw' rh rc rd sa sn sc S _ (HS.out.called HS1.2) hs' HCP.out.1 HCP.out.2).mono ?_
  rintro e u2 ⟨b,rfl,hb,hB⟩
  obtain rfl:=flag_true hb HB0.out; clear hb
  have HT:=HS1.called hB
  refine hK.out _ _ HT (fun HS2=>?_)
  clear hK K hB HT
  refine zqt 8 (.bool false) rfl ?_ HS2 ?_
  ·intro w' _
   go_simp
  simp only [Act.put,zga,zgb,zgc,zsa,zsb,zsc]
  refine zqt 9 (.bool false) rfl ?_ HS2 ?_
  ·intro w' _
   go_simp
  simp only [Act.put,zga,zgb,zgc,zsa,zsb,zsc]
  refine zqt 10 (.bool false) rfl ?_ HS2 ?_
  ·intro w' _
   go_simp
  simp only [Act.put,zga,zgb,zgc,zsa,zsb,zsc]
  refine zqt 11 (.pointer (some ⟨w.heap.size,7,none⟩)) rfl ?_ HS2 ?_
  ·intro w' _
   go_simp
  simp only [Act.put,zga,zgb,zgc,zsa,zsb,zsc]
  refine zqt 12 (.agg #[.int .i64 rw',.int .i64 rh,.int .i64 rc,.int .i64 rd,.slice sa sn sc]) rfl ?_ HS2 ?_
  ·intro w' hS
   obtain⟨c0,c1,c2,c3,c4,c5,c6,c7,c8,c9,c10,c11,c12⟩:=zqc hS.1; have cl:=block_lt hS.1
   go_simp
  simp only [Act.put,zga,zgb,zgc,zsa,zsb,zsc]
  refine zqt 13 (.pointer (some ⟨w.heap.size,0,none⟩)) rfl ?_ HS2 ?_
  ·intro w' _
   go_simp
  simp only [Act.put,zga,zgb,zgc,zsa,zsb,zsc]
  refine zqt 14 (.agg #[.int .i64 hw,.int .i64 hh,.int .i64 (d:Int),.int .i64 hc',.bool lace]) rfl ?_ HS2 ?_
  ·intro w' hS
   obtain⟨c0,c1,c2,c3,c4,c5,c6,c7,c8,c9,c10,c11,c12⟩:=zqc hS.1; have cl:=block_lt hS.1
   go_simp
  simp only [Act.put,zga,zgb,zgc,zsa,zsb,zsc]
  refine zqr 15 rfl (fun K hK=>?_)
  refine if_wanted (wanted_yes rfl rfl) ?_
  simp only [zga,zgb,zgc]
  go_simp
  refine (shape_any _ _ _ _ _ _).mono ?_
  rintro e u3 ⟨rfl,hB⟩
  have HT:=HS2.called hB
  refine hK.out _ _ HT (fun HS3=>?_)
  clear hK K hB HT
  refine zqr 16 rfl (fun K hK=>?_)
  refine if_wanted (wanted_yes rfl rfl) ?_
  simp only [zga,zgb,zgc]
  go_simp
  refine (hsh _).mono ?_
  rintro e u4 ⟨rfl,hB⟩
  have HT:=HS3.called hB
  refine hK.out _ _ HT (fun HS4=>?_)
  clear hK K hB HT
  refine zqt 17 (.bool true) rfl ?_ HS4 ?_
  ·intro w' _
   go_simp
  simp only [Act.put,zga,zgb,zgc,zsa,zsb,zsc]
  refine zqt 18 (.bool true) rfl ?_ HS4 ?_
  ·intro w' _
   go_simp
  simp only [Act.put,zga,zgb,zgc,zsa,zsb,zsc]
  refine wpAnyH_done (by kernel_rfl) ?_ _
  have HX:=hid_of HS4
  clear HS4
  have l0:=block_lt HX.out.1
  obtain⟨a0,a1,a2,a3,a4,a5,a6,a7,a8,a9,a10,a11,a12⟩:=zqc HX.out.1
  go_wp2_with fail
  go_ret
  exact HN.out _ HX.out.2
 simp only [decide_eq_true hE] at hsh
 have HE:=hid_of hE
 clear hE
 have hin:=fun W h=>inTable_any ⟨hw,hh,(d:Int),hc',lace,tn,T,cn,C,rw',rh,rc,rd,sn,S,kn,K⟩ ⟨ta,tc,ca,cc,sa,sc,ka,kc⟩ W h hs'
 simp only [pngV] at hin
 by_cases hT0:FitsR hc' (d:Int) tn T
 case neg=>
  have HN:=hid_of (HNo.out fun h=>hT0 (HR.out.mp h).2.1)
  have HQ:=hid_of hT0
  clear HNo HYes HR hT0
  have HX:Hid (PBox w (w.alloc (.cells #[.int .i64 hw,.int .i64 hh,.int .i64 (d:Int),.int .i64 hc',.bool lace,.slice ta tn tc,.slice ca cn cc,.int .i64 rw',.int .i64 rh,.int .i64 rc,.int .i64 rd,.slice sa sn sc,.slice ka kn kc] 37)) #[.int .i64 hw,.int .i64 hh,.int .i64 (d:Int),.int .i64 hc',.bool lace,.slice ta tn tc,.slice ca cn cc,.int .i64 rw',.int .i64 rh,.int .i64 rc,.int .i64 rd,.slice sa sn sc,.slice ka kn kc]):=⟨heap_alloc_new w _,bstart w _⟩
  have l0:=block_lt HX.out.1
  obtain⟨a0,a1,a2,a3,a4,a5,a6,a7,a8,a9,a10,a11,a12⟩:=zqc HX.out.1
  go_enter Tryz.func74,Tryz.ntmps74
  go_wp2_with fail
  have HS0:PBox w (w.alloc (.cells #[.int .i64 hw,.int .i64 hh,.int .i64 (d:Int),.int .i64 hc',.bool lace,.slice ta tn tc,.slice ca cn cc,.int .i64 rw',.int .i64 rh,.int .i64 rc,.int .i64 rd,.slice sa sn sc,.slice ka kn kc] 37)).drew #[.int .i64 hw,.int .i64 hh,.int .i64 (d:Int),.int .i64 hc',.bool lace,.slice ta tn tc,.slice ca cn cc,.int .i64 rw',.int .i64 rh,.int .i64 rc,.int .i64 rd,.slice sa sn sc,.slice ka kn kc]:=HX.out.drew
  clear HX l0 a0 a1 a2 a3 a4 a5 a6 a7 a8 a9 a10 a11 a12
  refine wp_region_held (S:=fun u=>PBox w u #[.int .i64 hw,.int .i64 hh,.int .i64 (d:Int),.int .i64 hc',.bool lace,.slice ta tn tc,.slice ca cn cc,.int .i64 rw',.int .i64 rh,.int .i64 rc,.int .i64 rd,.slice sa sn sc,.slice ka kn kc]) (by kernel_rfl) ?_
  show wpAnyH _ _ _ _ _ _ _ _ (w.alloc _).drew
  generalize (w.alloc _).drew=u0 at HS0 ⊢
  refine zqt 0 (.pointer (some ⟨w.heap.size,0,none⟩)) rfl ?_ HS0 ?_
  ·intro w' _
   go_simp
  simp only [Act.put,zga,zgb,zsa,zsb,zsc]
  refine zqt 1 (.agg #[.int .i64 hw,.int .i64 hh,.int .i64 (d:Int),.int .i64 hc',.bool lace]) rfl ?_ HS0 ?_
  ·intro w' hS
   obtain⟨c0,c1,c2,c3,c4,c5,c6,c7,c8,c9,c10,c11,c12⟩:=zqc hS.1; have cl:=block_lt hS.1
   go_simp
  simp only [Act.put,zga,zgb,zgc,zsa,zsb,zsc]
  refine zqr 2 rfl (fun K hK=>?_)
  refine if_wanted (wanted_none rfl) ?_
  simp only [zga,zgb,zgc]
  go_simp
  refine (hhd _).mono ?_
  rintro e u1 ⟨rfl,hB⟩
  have HT:=HS0.called hB
  refine hK.out _ _ HT (fun HS1=>?_)
  clear hK K hB HT
  refine zqt 3 (.bool false) rfl ?_ HS1 ?_
  ·intro w' _
   go_simp
  simp only [Act.put,zga,zgb,zgc,zsa,zsb,zsc]
  refine zqt 4 (.bool false) rfl ?_ HS1 ?_
  ·intro w' _
   go_simp
  simp only [Act.put,zga,zgb,zgc,zsa,zsb,zsc]
  refine zqt 5 (.pointer (some ⟨w.heap.size,7,none⟩)) rfl ?_ HS1 ?_
  ·intro w' _
   go_simp
  simp only [Act.put,zga,zgb,zgc,zsa,zsb,zsc]
  refine zqt 6 (.agg #[.int .i64 rw',.int .i64 rh,.int .i64 rc,.int .i64 rd,.slice sa sn sc]) rfl ?_ HS1 ?_
  ·intro w' hS
   obtain⟨c0,c1,c2,c3,c4,c5,c6,c7,c8,c9,c10,c11,c12⟩:=zqc hS.1; have cl:=block_lt hS.1
   go_simp
  simp only [Act.put,zga,zgb,zgc,zsa,zsb,zsc]
  refine zqr 7 rfl (fun K hK=>?_)
  refine if_wanted (wanted_yes rfl rfl) ?_
  simp only [zga,zgb,zgc]
  go_simp
  refine (implRaster rw' rh rc rd sa sn sc S _ (HS.out.called HS1.2) hs' HCP.out.1 HCP.out.2).mono ?_
  rintro e u2 ⟨b,rfl,hb,hB⟩
  obtain rfl:=flag_true hb HB0.out; clear hb
  have HT:=HS1.called hB
  refine hK.out _ _ HT (fun HS2=>?_)
  clear hK K hB HT
  refine zqt 8 (.bool false) rfl ?_ HS2 ?_
  ·intro w' _
   go_simp
  simp only [Act.put,zga,zgb,zgc,zsa,zsb,zsc]
  refine zqt 9 (.bool false) rfl ?_ HS2 ?_
  ·intro w' _
   go_simp
  simp only [Act.put,zga,zgb,zgc,zsa,zsb,zsc]
  refine zqt 10 (.bool false) rfl ?_ HS2 ?_
  ·intro w' _
   go_simp
  simp only [Act.put,zga,zgb,zgc,zsa,zsb,zsc]
  refine zqt 11 (.pointer (some ⟨w.heap.size,7,none⟩)) rfl ?_ HS2 ?_
  ·intro w' _
   go_simp
  simp only [Act.put,zga,zgb,zgc,zsa,zsb,zsc]
  refine zqt 12 (.agg #[.int .i64 rw',.int .i64 rh,.int .i64 rc,.int .i64 rd,.slice sa sn sc]) rfl ?_ HS2 ?_
  ·intro w' hS
   obtain⟨c0,c1,c2,c3,c4,c5,c6,c7,c8,c9,c10,c11,c12⟩:=zqc hS.1; have cl:=block_lt hS.1
   go_simp
  simp only [Act.put,zga,zgb,zgc,zsa,zsb,zsc]
  refine zqt 13 (.pointer (some ⟨w.heap.size,0,none⟩)) rfl ?_ HS2 ?_
  ·intro w' _
   go_simp
  simp only [Act.put,zga,zgb,zgc,zsa,zsb,zsc]
  refine zqt 14 (.agg #[.int .i64 hw,.int .i64 hh,.int .i64 (d:Int),.int .i64 hc',.bool lace]) rfl ?_ HS2 ?_
  ·intro w' hS
   obtain⟨c0,c1,c2,c3,c4,c5,c6,c7,c8,c9,c10,c11,c12⟩:=zqc hS.1; have cl:=block_lt hS.1
   go_simp
  simp only [Act.put,zga,zgb,zgc,zsa,zsb,zsc]
  refine zqr 15 rfl (fun K hK=>?_)
  refine if_wanted (wanted_yes rfl rfl) ?_
  simp only [zga,zgb,zgc]
  go_simp
  refine (shape_any _ _ _ _ _ _).mono ?_
  rintro e u3 ⟨rfl,hB⟩
  have HT:=HS2.called hB
  refine hK.out _ _ HT (fun HS3=>?_)
  clear hK K hB HT
  refine zqr 16 rfl (fun K hK=>?_)
  refine if_wanted (wanted_yes rfl rfl) ?_
  simp only [zga,zgb,zgc]
  go_simp
  refine (hsh _).mono ?_
  rintro e u4 ⟨rfl,hB⟩
  have HT:=HS3.called hB
  refine hK.out _ _ HT (fun HS4=>?_)
  clear hK K hB HT
  refine zqt 17 (.bool false) rfl ?_ HS4 ?_
  ·intro w' _
   go_simp
  simp only [Act.put,zga,zgb,zgc,zsa,zsb,zsc]
  refine zqt 18 (.bool false) rfl ?_ HS4 ?_
  ·intro w' _
   go_simp
  simp only [Act.put,zga,zgb,zgc,zsa,zsb,zsc]
  refine wpAnyH_done (by kernel_rfl) ?_ _
  have HX:=hid_of HS4
  clear HS4
  have l0:=block_lt HX.out.1
  obtain⟨a0,a1,a2,a3,a4,a5,a6,a7,a8,a9,a10,a11,a12⟩:=zqc HX.out.1
  go_wp2_with fail
  refine (fits_any hw hh hc' d lace ta tn tc T _ (HT.out.called HX.out.2) ht' hd16).mono ?_
  rintro e w' ⟨b,rfl,hb,hB⟩
  obtain rfl:=flag_false hb HQ.out
  have HY:=hid_of (HX.out.called hB)
  clear HX hB hb
  clear l0 a0 a1 a2 a3 a4 a5 a6 a7 a8 a9 a10 a11 a12
  have HX:=HY
  clear HY
  have l0:=block_lt HX.out.1
  obtain⟨a0,a1,a2,a3,a4,a5,a6,a7,a8,a9,a10,a11,a12⟩:=zqc HX.out.1
  go_wp2_with fail
  go_ret
  exact HN.out _ HX.out.2
 have HT0:=hid_of hT0
 clear hT0
 by_cases hC0:ClrR (d:Int) hc' tn cn C
 case neg=>
  have HN:=hid_of (HNo.out fun h=>hC0 (HR.out.mp h).2.2.1)
  have HQ:=hid_of hC0
  clear HNo HYes HR hC0
  have HX:Hid (PBox w (w.alloc (.cells #[.int .i64 hw,.int .i64 hh,.int .i64 (d:Int),.int .i64 hc',.bool lace,.slice ta tn tc,.slice ca cn cc,.int .i64 rw',.int .i64 rh,.int .i64 rc,.int .i64 rd,.slice sa sn sc,.slice ka kn kc] 37)) #[.int .i64 hw,.int .i64 hh,.int .i64 (d:Int),.int .i64 hc',.bool lace,.slice ta tn tc,.slice ca cn cc,.int .i64 rw',.int .i64 rh,.int .i64 rc,.int .i64 rd,.slice sa sn sc,.slice ka kn kc]):=⟨heap_alloc_new w _,bstart w _⟩
  have l0:=block_lt HX.out.1
  obtain⟨a0,a1,a2,a3,a4,a5,a6,a7,a8,a9,a10,a11,a12⟩:=zqc HX.out.1
  go_enter Tryz.func74,Tryz.ntmps74
  go_wp2_with fail
  have HS0:PBox w (w.alloc (.cells #[.int .i64 hw,.int .i64 hh,.int .i64 (d:Int),.int .i64 hc',.bool lace,.slice ta tn tc,.slice ca cn cc,.int .i64 rw',.int .i64 rh,.int .i64 rc,.int .i64 rd,.slice sa sn sc,.slice ka kn kc] 37)).drew #[.int .i64 hw,.int .i64 hh,.int .i64 (d:Int),.int .i64 hc',.bool lace,.slice ta tn tc,.slice ca cn cc,.int .i64 rw',.int .i64 rh,.int .i64 rc,.int .i64 rd,.slice sa sn sc,.slice ka kn kc]:=HX.out.drew
  clear HX l0 a0 a1 a2 a3 a4 a5 a6 a7 a8 a9 a10 a11 a12
  refine wp_region_held (S:=fun u=>PBox w u #[.int .i64 hw,.int .i64 hh,.int .i64 (d:Int),.int .i64 hc',.bool lace,.slice ta tn tc,.slice ca cn cc,.int .i64 rw',.int .i64 rh,.int .i64 rc,.int .i64 rd,.slice sa sn sc,.slice ka kn kc]) (by kernel_rfl) ?_
  show wpAnyH _ _ _ _ _ _ _ _ (w.alloc _).drew
  generalize (w.alloc _).drew=u0 at HS0 ⊢
  refine zqt 0 (.pointer (some ⟨w.heap.size,0,none⟩)) rfl ?_ HS0 ?_
  ·intro w' _
   go_simp
  simp only [Act.put,zga,zgb,zsa,zsb,zsc]
  refine zqt 1 (.agg #[.int .i64 hw,.int .i64 hh,.int .i64 (d:Int),.int .i64 hc',.bool lace]) rfl ?_ HS0 ?_
  ·intro w' hS
   obtain⟨c0,c1,c2,c3,c4,c5,c6,c7,c8,c9,c10,c11,c12⟩:=zqc hS.1; have cl:=block_lt hS.1
   go_simp
  simp only [Act.put,zga,zgb,zgc,zsa,zsb,zsc]
  refine zqr 2 rfl (fun K hK=>?_)
  refine if_wanted (wanted_none rfl) ?_
  simp only [zga,zgb,zgc]
  go_simp
  refine (hhd _).mono ?_
  rintro e u1 ⟨rfl,hB⟩
  have HT:=HS0.called hB
  refine hK.out _ _ HT (fun HS1=>?_)
  clear hK K hB HT
  refine zqt 3 (.bool false) rfl ?_ HS1 ?_
  ·intro w' _
   go_simp
  simp only [Act.put,zga,zgb,zgc,zsa,zsb,zsc]
  refine zqt 4 (.bool false) rfl ?_ HS1 ?_
  ·intro w' _
   go_simp
  simp only [Act.put,zga,zgb,zgc,zsa,zsb,zsc]
  refine zqt 5 (.pointer (some ⟨w.heap.size,7,none⟩)) rfl ?_ HS1 ?_
  ·intro w' _
   go_simp
  simp only [Act.put,zga,zgb,zgc,zsa,zsb,zsc]
  refine zqt 6 (.agg #[.int .i64 rw',.int .i64 rh,.int .i64 rc,.int .i64 rd,.slice sa sn sc]) rfl ?_ HS1 ?_
  ·intro w' hS
   obtain⟨c0,c1,c2,c3,c4,c5,c6,c7,c8,c9,c10,c11,c12⟩:=zqc hS.1; have cl:=block_lt hS.1
   go_simp
  simp only [Act.put,zga,zgb,zgc,zsa,zsb,zsc]
  refine zqr 7 rfl (fun K hK=>?_)
  refine if_wanted (wanted_yes rfl rfl) ?_
  simp only [zga,zgb,zgc]
  go_simp
  refine (implRaster rw' rh rc rd sa sn sc S _ (HS.out.called HS1.2) hs' HCP.out.1 HCP.out.2).mono ?_
  rintro e u2 ⟨b,rfl,hb,hB⟩
  obtain rfl:=flag_true hb HB0.out; clear hb
  have HT:=HS1.called hB
  refine hK.out _ _ HT (fun HS2=>?_)
  clear hK K hB HT
  refine zqt 8 (.bool false) rfl ?_ HS2 ?_
  ·intro w' _
   go_simp
  simp only [Act.put,zga,zgb,zgc,zsa,zsb,zsc]
  refine zqt 9 (.bool false) rfl ?_ HS2 ?_
  ·intro w' _
   go_simp
  simp only [Act.put,zga,zgb,zgc,zsa,zsb,zsc]
  refine zqt 10 (.bool false) rfl ?_ HS2 ?_
  ·intro w' _
   go_simp
  simp only [Act.put,zga,zgb,zgc,zsa,zsb,zsc]
  refine zqt 11 (.pointer (some ⟨w.heap.size,7,none⟩)) rfl ?_ HS2 ?_
  ·intro w' _
   go_simp
  simp only [Act.put,zga,zgb,zgc,zsa,zsb,zsc]
  refine zqt 12 (.agg #[.int .i64 rw',.int .i64 rh,.int .i64 rc,.int .i64 rd,.slice sa sn sc]) rfl ?_ HS2 ?_
  ·intro w' hS
   obtain⟨c0,c1,c2,c3,c4,c5,c6,c7,c8,c9,c10,c11,c12⟩:=zqc hS.1; have cl:=block_lt hS.1
   go_simp
  simp only [Act.put,zga,zgb,zgc,zsa,zsb,zsc]
  refine zqt 13 (.pointer (some ⟨w.heap.size,0,none⟩)) rfl ?_ HS2 ?_
  ·intro w' _
   go_simp
  simp only [Act.put,zga,zgb,zgc,zsa,zsb,zsc]
  refine zqt 14 (.agg #[.int .i64 hw,.int .i64 hh,.int .i64 (d:Int),.int .i64 hc',.bool lace]) rfl ?_ HS2 ?_
  ·intro w' hS
   obtain⟨c0,c1,c2,c3,c4,c5,c6,c7,c8,c9,c10,c11,c12⟩:=zqc hS.1; have cl:=block_lt hS.1
   go_simp
  simp only [Act.put,zga,zgb,zgc,zsa,zsb,zsc]
  refine zqr 15 rfl (fun K hK=>?_)
  refine if_wanted (wanted_yes rfl rfl) ?_
  simp only [zga,zgb,zgc]
  go_simp
  refine (shape_any _ _ _ _ _ _).mono ?_
  rintro e u3 ⟨rfl,hB⟩
  have HT:=HS2.called hB
  refine hK.out _ _ HT (fun HS3=>?_)
  clear hK K hB HT
  refine zqr 16 rfl (fun K hK=>?_)
  refine if_wanted (wanted_yes rfl rfl) ?_
  simp only [zga,zgb,zgc]
  go_simp
  refine (hsh _).mono ?_
  rintro e u4 ⟨rfl,hB⟩
  have HT:=HS3.called hB
  refine hK.out _ _ HT (fun HS4=>?_)
  clear hK K hB HT
  refine zqt 17 (.bool false) rfl ?_ HS4 ?_
  ·intro w' _
   go_simp
  simp only [Act.put,zga,zgb,zgc,zsa,zsb,zsc]
  refine zqt 18 (.bool false) rfl ?_ HS4 ?_
  ·intro w' _
   go_simp
  simp only [Act.put,zga,zgb,zgc,zsa,zsb,zsc]
  refine wpAnyH_done (by kernel_rfl) ?_ _
  have HX:=hid_of HS4
  clear HS4
  have l0:=block_lt HX.out.1
  obtain⟨a0,a1,a2,a3,a4,a5,a6,a7,a8,a9,a10,a11,a12⟩:=zqc HX.out.1
  go_wp2_with fail
  refine (fits_any hw hh hc' d lace ta tn tc T _ (HT.out.called HX.out.2) ht' hd16).mono ?_
  rintro e w' ⟨b,rfl,hb,hB⟩
  obtain rfl:=flag_true hb HT0.out
  have HY:=hid_of (HX.out.called hB)
  clear HX hB hb
  clear l0 a0 a1 a2 a3 a4 a5 a6 a7 a8 a9 a10 a11 a12
  have HX:=HY
  clear HY
  have l0:=block_lt HX.out.1
  obtain⟨a0,a1,a2,a3,a4,a5,a6,a7,a8,a9,a10,a11,a12⟩:=zqc HX.out.1
  go_wp2_with fail
  refine (implClr hw hh hc' tn d lace ca cn cc C _ (HC.out.called HX.out.2) hc2 hd16).mono ?_
  rintro e w' ⟨b,rfl,hb,hB⟩
  obtain rfl:=flag_false hb HQ.out
  have HY:=hid_of (HX.out.called hB)
  clear HX hB hb
  clear l0 a0 a1 a2 a3 a4 a5 a6 a7 a8 a9 a10 a11 a12
  have HX:=HY
  clear HY
  have l0:=block_lt HX.out.1
  obtain⟨a0,a1,a2,a3,a4,a5,a6,a7,a8,a9,a10,a11,a12⟩:=zqc HX.out.1
  go_wp2_with fail
  go_ret
  exact HN.out _ HX.out.2
 have HC0:=hid_of hC0
 clear hC0
 by_cases hI0:InR hc' tn sn S
 case neg=>
  have HN:=hid_of (HNo.out fun h=>hI0 (HR.out.mp h).2.2.2.1)
  have HQ:=hid_of hI0
  clear HNo HYes HR hI0
  have HX:Hid (PBox w (w.alloc (.cells #[.int .i64 hw,.int .i64 hh,.int .i64 (d:Int),.int .i64 hc',.bool lace,.slice ta tn tc,.slice ca cn cc,.int .i64 rw',.int .i64 rh,.int .i64 rc,.int .i64 rd,.slice sa sn sc,.slice ka kn kc] 37)) #[.int .i64 hw,.int .i64 hh,.int .i64 (d:Int),.int .i64 hc',.bool lace,.slice ta tn tc,.slice ca cn cc,.int .i64 rw',.int .i64 rh,.int .i64 rc,.int .i64 rd,.slice sa sn sc,.slice ka kn kc]):=⟨heap_alloc_new w _,bstart w _⟩
  have l0:=block_lt HX.out.1
  obtain⟨a0,a1,a2,a3,a4,a5,a6,a7,a8,a9,a10,a11,a12⟩:=zqc HX.out.1
  go_enter Tryz.func74,Tryz.ntmps74
  go_wp2_with fail
  have HS0:PBox w (w.alloc (.cells #[.int .i64 hw,.int .i64 hh,.int .i64 (d:Int),.int .i64 hc',.bool lace,.slice ta tn tc,.slice ca cn cc,.int .i64 rw',.int .i64 rh,.int .i64 rc,.int .i64 rd,.slice sa sn sc,.slice ka kn kc] 37)).drew #[.int .i64 hw,.int .i64 hh,.int .i64 (d:Int),.int .i64 hc',.bool lace,.slice ta tn tc,.slice ca cn cc,.int .i64 rw',.int .i64 rh,.int .i64 rc,.int .i64 rd,.slice sa sn sc,.slice ka kn kc]:=HX.out.drew
  clear HX l0 a0 a1 a2 a3 a4 a5 a6 a7 a8 a9 a10 a11 a12
  refine wp_region_held (S:=fun u=>PBox w u #[.int .i64 hw,.int .i64 hh,.int .i64 (d:Int),.int .i64 hc',.bool lace,.slice ta tn tc,.slice ca cn cc,.int .i64 rw',.int .i64 rh,.int .i64 rc,.int .i64 rd,.slice sa sn sc,.slice ka kn kc]) (by kernel_rfl) ?_
  show wpAnyH _ _ _ _ _ _ _ _ (w.alloc _).drew
  generalize (w.alloc _).drew=u0 at HS0 ⊢
  refine zqt 0 (.pointer (some ⟨w.heap.size,0,none⟩)) rfl ?_ HS0 ?_
  ·intro w' _
   go_simp
  simp only [Act.put,zga,zgb,zsa,zsb,zsc]
  refine zqt 1 (.agg #[.int .i64 hw,.int .i64 hh,.int .i64 (d:Int),.int .i64 hc',.bool lace]) rfl ?_ HS0 ?_
  ·intro w' hS
   obtain⟨c0,c1,c2,c3,c4,c5,c6,c7,c8,c9,c10,c11,c12⟩:=zqc hS.1; have cl:=block_lt hS.1
   go_simp
  simp only [Act.put,zga,zgb,zgc,zsa,zsb,zsc]
  refine zqr 2 rfl (fun K hK=>?_)
  refine if_wanted (wanted_none rfl) ?_
  simp only [zga,zgb,zgc]
  go_simp
  refine (hhd _).mono ?_
  rintro e u1 ⟨rfl,hB⟩
  have HT:=HS0.called hB
  refine hK.out _ _ HT (fun HS1=>?_)
  clear hK K hB HT
  refine zqt 3 (.bool false) rfl ?_ HS1 ?_
  ·intro w' _
   go_simp
  simp only [Act.put,zga,zgb,zgc,zsa,zsb,zsc]
  refine zqt 4 (.bool false) rfl ?_ HS1 ?_
  ·intro w' _
   go_simp
  simp only [Act.put,zga,zgb,zgc,zsa,zsb,zsc]
  refine zqt 5 (.pointer (some ⟨w.heap.size,7,none⟩)) rfl ?_ HS1 ?_
  ·intro w' _
   go_simp
  simp only [Act.put,zga,zgb,zgc,zsa,zsb,zsc]
  refine zqt 6 (.agg #[.int .i64 rw',.int .i64 rh,.int .i64 rc,.int .i64 rd,.slice sa sn sc]) rfl ?_ HS1 ?_
  ·intro w' hS
   obtain⟨c0,c1,c2,c3,c4,c5,c6,c7,c8,c9,c10,c11,c12⟩:=zqc hS.1; have cl:=block_lt hS.1
   go_simp
  simp only [Act.put,zga,zgb,zgc,zsa,zsb,zsc]
  refine zqr 7 rfl (fun K hK=>?_)
  refine if_wanted (wanted_yes rfl rfl) ?_
  simp only [zga,zgb,zgc]
  go_simp
  refine (implRaster rw' rh rc rd sa sn sc S _ (HS.out.called HS1.2) hs' HCP.out.1 HCP.out.2).mono ?_
  rintro e u2 ⟨b,rfl,hb,hB⟩
  obtain rfl:=flag_true hb HB0.out; clear hb
  have HT:=HS1.called hB
  refine hK.out _ _ HT (fun HS2=>?_)
  clear hK K hB HT
  refine zqt 8 (.bool false) rfl ?_ HS2 ?_
  ·intro w' _
   go_simp
  simp only [Act.put,zga,zgb,zgc,zsa,zsb,zsc]
  refine zqt 9 (.bool false) rfl ?_ HS2 ?_
  ·intro w' _
   go_simp
  simp only [Act.put,zga,zgb,zgc,zsa,zsb,zsc]
  refine zqt 10 (.bool false) rfl ?_ HS2 ?_
  ·intro w' _
   go_simp
  simp only [Act.put,zga,zgb,zgc,zsa,zsb,zsc]
  refine zqt 11 (.pointer (some ⟨w.heap.size,7,none⟩)) rfl ?_ HS2 ?_
  ·intro w' _
   go_simp
  simp only [Act.put,zga,zgb,zgc,zsa,zsb,zsc]
  refine zqt 12 (.agg #[.int .i64 rw',.int .i64 rh,.int .i64 rc,.int .i64 rd,.slice sa sn sc]) rfl ?_ HS2 ?_
  ·intro w' hS
   obtain⟨c0,c1,c2,c3,c4,c5,c6,c7,c8,c9,c10,c11,c12⟩:=zqc hS.1; have cl:=block_lt hS.1
   go_simp
  simp only [Act.put,zga,zgb,zgc,zsa,zsb,zsc]
  refine zqt 13 (.pointer (some ⟨w.heap.size,0,none⟩)) rfl ?_ HS2 ?_
  ·intro w' _
   go_simp
  simp only [Act.put,zga,zgb,zgc,zsa,zsb,zsc]
  refine zqt 14 (.agg #[.int .i64 hw,.int .i64 hh,.int .i64 (d:Int),.int .i64 hc',.bool lace]) rfl ?_ HS2 ?_
  ·intro w' hS
   obtain⟨c0,c1,c2,c3,c4,c5,c6,c7,c8,c9,c10,c11,c12⟩:=zqc hS.1; have cl:=block_lt hS.1
   go_simp
  simp only [Act.put,zga,zgb,zgc,zsa,zsb,zsc]
  refine zqr 15 rfl (fun K hK=>?_)
  refine if_wanted (wanted_yes rfl rfl) ?_
  simp only [zga,zgb,zgc]
  go_simp
  refine (shape_any _ _ _ _ _ _).mono ?_
  rintro e u3 ⟨rfl,hB⟩
  have HT:=HS2.called hB
  refine hK.out _ _ HT (fun HS3=>?_)
  clear hK K hB HT
  refine zqr 16 rfl (fun K hK=>?_)
  refine if_wanted (wanted_yes rfl rfl) ?_
  simp only [zga,zgb,zgc]
  go_simp
  refine (hsh _).mono ?_
  rintro e u4 ⟨rfl,hB⟩
  have HT:=HS3.called hB
  refine hK.out _ _ HT (fun HS4=>?_)
  clear hK K hB HT
  refine zqt 17 (.bool false) rfl ?_ HS4 ?_
  ·intro w' _
   go_simp
  simp only [Act.put,zga,zgb,zgc,zsa,zsb,zsc]
  refine zqt 18 (.bool false) rfl ?_ HS4 ?_
  ·intro w' _
   go_simp
  simp only [Act.put,zga,zgb,zgc,zsa,zsb,zsc]
  refine wpAnyH_done (by kernel_rfl) ?_ _
  have HX:=hid_of HS4
  clear HS4
  have l0:=block_lt HX.out.1
  obtain⟨a0,a1,a2,a3,a4,a5,a6,a7,a8,a9,a10,a11,a12⟩:=zqc HX.out.1
  go_wp2_with fail
  refine (fits_any hw hh hc' d lace ta tn tc T _ (HT.out.called HX.out.2) ht' hd16).mono ?_
  rintro e w' ⟨b,rfl,hb,hB⟩
  obtain rfl:=flag_true hb HT0.out
  have HY:=hid_of (HX.out.called hB)
  clear HX hB hb
  clear l0 a0 a1 a2 a3 a4 a5 a6 a7 a8 a9 a10 a11 a12
  have HX:=HY
  clear HY
  have l0:=block_lt HX.out.1
  obtain⟨a0,a1,a2,a3,a4,a5,a6,a7,a8,a9,a10,a11,a12⟩:=zqc HX.out.1
  go_wp2_with fail
  refine (implClr hw hh hc' tn d lace ca cn cc C _ (HC.out.called HX.out.2) hc2 hd16).mono ?_
  rintro e w' ⟨b,rfl,hb,hB⟩
  obtain rfl:=flag_true hb HC0.out
  have HY:=hid_of (HX.out.called hB)
  clear HX hB hb
  clear l0 a0 a1 a2 a3 a4 a5 a6 a7 a8 a9 a10 a11 a12
  have HX:=HY
  clear HY
  have l0:=block_lt HX.out.1
  obtain⟨a0,a1,a2,a3,a4,a5,a6,a7,a8,a9,a10,a11,a12⟩:=zqc HX.out.1
  go_wp2_with fail
  refine (hin _ (HS.out.called HX.out.2)).mono ?_
  rintro e w' ⟨b,rfl,hb,hB⟩
  obtain rfl:=flag_false hb HQ.out
  have HY:=hid_of (HX.out.called hB)
  clear HX hB hb
  clear l0 a0 a1 a2 a3 a4 a5 a6 a7 a8 a9 a10 a11 a12
  have HX:=HY
  clear HY
  have l0:=block_lt HX.out.1
  obtain⟨a0,a1,a2,a3,a4,a5,a6,a7,a8,a9,a10,a11,a12⟩:=zqc HX.out.1
  go_wp2_with fail
  go_ret
  exact HN.out _ HX.out.2
 have HI0:=hid_of hI0
 clear hI0
 by_cases hK0:KeptR kn K
 case neg=>
  have HN:=hid_of (HNo.out fun h=>hK0 (HR.out.mp h).2.2.2.2)
  have HQ:=hid_of hK0
  clear HNo HYes HR hK0
  have HX:Hid (PBox w (w.alloc (.cells #[.int .i64 hw,.int .i64 hh,.int .i64 (d:Int),.int .i64 hc',.bool lace,.slice ta tn tc,.slice ca cn cc,.int .i64 rw',.int .i64 rh,.int .i64 rc,.int .i64 rd,.slice sa sn sc,.slice ka kn kc] 37)) #[.int .i64 hw,.int .i64 hh,.int .i64 (d:Int),.int .i64 hc',.bool lace,.slice ta tn tc,.slice ca cn cc,.int .i64 rw',.int .i64 rh,.int .i64 rc,.int .i64 rd,.slice sa sn sc,.slice ka kn kc]):=⟨heap_alloc_new w _,bstart w _⟩
  have l0:=block_lt HX.out.1
  obtain⟨a0,a1,a2,a3,a4,a5,a6,a7,a8,a9,a10,a11,a12⟩:=zqc HX.out.1
  go_enter Tryz.func74,Tryz.ntmps74
  go_wp2_with fail
  have HS0:PBox w (w.alloc (.cells #[.int .i64 hw,.int .i64 hh,.int .i64 (d:Int),.int .i64 hc',.bool lace,.slice ta tn tc,.slice ca cn cc,.int .i64 rw',.int .i64 rh,.int .i64 rc,.int .i64 rd,.slice sa sn sc,.slice ka kn kc] 37)).drew #[.int .i64 hw,.int .i64 hh,.int .i64 (d:Int),.int .i64 hc',.bool lace,.slice ta tn tc,.slice ca cn cc,.int .i64 rw',.int .i64 rh,.int .i64 rc,.int .i64 rd,.slice sa sn sc,.slice ka kn kc]:=HX.out.drew
  clear HX l0 a0 a1 a2 a3 a4 a5 a6 a7 a8 a9 a10 a11 a12
  refine wp_region_held (S:=fun u=>PBox w u #[.int .i64 hw,.int .i64 hh,.int .i64 (d:Int),.int .i64 hc',.bool lace,.slice ta tn tc,.slice ca cn cc,.int .i64 rw',.int .i64 rh,.int .i64 rc,.int .i64 rd,.slice sa sn sc,.slice ka kn kc]) (by kernel_rfl) ?_
  show wpAnyH _ _ _ _ _ _ _ _ (w.alloc _).drew
  generalize (w.alloc _).drew=u0 at HS0 ⊢
  refine zqt 0 (.pointer (some ⟨w.heap.size,0,none⟩)) rfl ?_ HS0 ?_
  ·intro w' _
   go_simp
  simp only [Act.put,zga,zgb,zsa,zsb,zsc]
  refine zqt 1 (.agg #[.int .i64 hw,.int .i64 hh,.int .i64 (d:Int),.int .i64 hc',.bool lace]) rfl ?_ HS0 ?_
  ·intro w' hS
   obtain⟨c0,c1,c2,c3,c4,c5,c6,c7,c8,c9,c10,c11,c12⟩:=zqc hS.1; have cl:=block_lt hS.1
   go_simp
  simp only [Act.put,zga,zgb,zgc,zsa,zsb,zsc]
  refine zqr 2 rfl (fun K hK=>?_)
  refine if_wanted (wanted_none rfl) ?_
  simp only [zga,zgb,zgc]
  go_simp
  refine (hhd _).mono ?_
  rintro e u1 ⟨rfl,hB⟩
  have HT:=HS0.called hB
  refine hK.out _ _ HT (fun HS1=>?_)
  clear hK K hB HT
  refine zqt 3 (.bool false) rfl ?_ HS1 ?_
  ·intro w' _
   go_simp
  simp only [Act.put,zga,zgb,zgc,zsa,zsb,zsc]
  refine zqt 4 (.bool false) rfl ?_ HS1 ?_
  ·intro w' _
   go_simp
  simp only [Act.put,zga,zgb,zgc,zsa,zsb,zsc]
  refine zqt 5 (.pointer (some ⟨w.heap.size,7,none⟩)) rfl ?_ HS1 ?_
  ·intro w' _
   go_simp
  simp only [Act.put,zga,zgb,zgc,zsa,zsb,zsc]
  refine zqt 6 (.agg #[.int .i64 rw',.int .i64 rh,.int .i64 rc,.int .i64 rd,.slice sa sn sc]) rfl ?_ HS1 ?_
  ·intro w' hS
   obtain⟨c0,c1,c2,c3,c4,c5,c6,c7,c8,c9,c10,c11,c12⟩:=zqc hS.1; have cl:=block_lt hS.1
   go_simp
  simp only [Act.put,zga,zgb,zgc,zsa,zsb,zsc]
  refine zqr 7 rfl (fun K hK=>?_)
  refine if_wanted (wanted_yes rfl rfl) ?_
  simp only [zga,zgb,zgc]
  go_simp
  refine (implRaster rw' rh rc rd sa sn sc S _ (HS.out.called HS1.2) hs' HCP.out.1 HCP.out.2).mono ?_
  rintro e u2 ⟨b,rfl,hb,hB⟩
  obtain rfl:=flag_true hb HB0.out; clear hb
  have HT:=HS1.called hB
  refine hK.out _ _ HT (fun HS2=>?_)
  clear hK K hB HT
  refine zqt 8 (.bool false) rfl ?_ HS2 ?_
  ·intro w' _
   go_simp
  simp only [Act.put,zga,zgb,zgc,zsa,zsb,zsc]
  refine zqt 9 (.bool false) rfl ?_ HS2 ?_
  ·intro w' _
   go_simp
  simp only [Act.put,zga,zgb,zgc,zsa,zsb,zsc]
  refine zqt 10 (.bool false) rfl ?_ HS2 ?_
  ·intro w' _
   go_simp
  simp only [Act.put,zga,zgb,zgc,zsa,zsb,zsc]
  refine zqt 11 (.pointer (some ⟨w.heap.size,7,none⟩)) rfl ?_ HS2 ?_
  ·intro w' _
   go_simp
  simp only [Act.put,zga,zgb,zgc,zsa,zsb,zsc]
  refine zqt 12 (.agg #[.int .i64 rw',.int .i64 rh,.int .i64 rc,.int .i64 rd,.slice sa sn sc]) rfl ?_ HS2 ?_
  ·intro w' hS
   obtain⟨c0,c1,c2,c3,c4,c5,c6,c7,c8,c9,c10,c11,c12⟩:=zqc hS.1; have cl:=block_lt hS.1
   go_simp
  simp only [Act.put,zga,zgb,zgc,zsa,zsb,zsc]
  refine zqt 13 (.pointer (some ⟨w.heap.size,0,none⟩)) rfl ?_ HS2 ?_
  ·intro w' _
   go_simp
  simp only [Act.put,zga,zgb,zgc,zsa,zsb,zsc]
  refine zqt 14 (.agg #[.int .i64 hw,.int .i64 hh,.int .i64 (d:Int),.int .i64 hc',.bool lace]) rfl ?_ HS2 ?_
  ·intro w' hS
   obtain⟨c0,c1,c2,c3,c4,c5,c6,c7,c8,c9,c10,c11,c12⟩:=zqc hS.1; have cl:=block_lt hS.1
   go_simp
  simp only [Act.put,zga,zgb,zgc,zsa,zsb,zsc]
  refine zqr 15 rfl (fun K hK=>?_)
  refine if_wanted (wanted_yes rfl rfl) ?_
  simp only [zga,zgb,zgc]
  go_simp
  refine (shape_any _ _ _ _ _ _).mono ?_
  rintro e u3 ⟨rfl,hB⟩
  have HT:=HS2.called hB
  refine hK.out _ _ HT (fun HS3=>?_)
  clear hK K hB HT
  refine zqr 16 rfl (fun K hK=>?_)
  refine if_wanted (wanted_yes rfl rfl) ?_
  simp only [zga,zgb,zgc]
  go_simp
  refine (hsh _).mono ?_
  rintro e u4 ⟨rfl,hB⟩
  have HT:=HS3.called hB
  refine hK.out _ _ HT (fun HS4=>?_)
  clear hK K hB HT
  refine zqt 17 (.bool false) rfl ?_ HS4 ?_
  ·intro w' _
   go_simp
  simp only [Act.put,zga,zgb,zgc,zsa,zsb,zsc]
  refine zqt 18 (.bool false) rfl ?_ HS4 ?_
  ·intro w' _
   go_simp
  simp only [Act.put,zga,zgb,zgc,zsa,zsb,zsc]
  refine wpAnyH_done (by kernel_rfl) ?_ _
  have HX:=hid_of HS4
  clear HS4
  have l0:=block_lt HX.out.1
  obtain⟨a0,a1,a2,a3,a4,a5,a6,a7,a8,a9,a10,a11,a12⟩:=zqc HX.out.1
  go_wp2_with fail
  refine (fits_any hw hh hc' d lace ta tn tc T _ (HT.out.called HX.out.2) ht' hd16).mono ?_
  rintro e w' ⟨b,rfl,hb,hB⟩
  obtain rfl:=flag_true hb HT0.out
  have HY:=hid_of (HX.out.called hB)
  clear HX hB hb
  clear l0 a0 a1 a2 a3 a4 a5 a6 a7 a8 a9 a10 a11 a12
  have HX:=HY
  clear HY
  have l0:=block_lt HX.out.1
  obtain⟨a0,a1,a2,a3,a4,a5,a6,a7,a8,a9,a10,a11,a12⟩:=zqc HX.out.1
  go_wp2_with fail
  refine (implClr hw hh hc' tn d lace ca cn cc C _ (HC.out.called HX.out.2) hc2 hd16).mono ?_
  rintro e w' ⟨b,rfl,hb,hB⟩
  obtain rfl:=flag_true hb HC0.out
  have HY:=hid_of (HX.out.called hB)
  clear HX hB hb
  clear l0 a0 a1 a2 a3 a4 a5 a6 a7 a8 a9 a10 a11 a12
  have HX:=HY
  clear HY
  have l0:=block_lt HX.out.1
  obtain⟨a0,a1,a2,a3,a4,a5,a6,a7,a8,a9,a10,a11,a12⟩:=zqc HX.out.1
  go_wp2_with fail
  refine (hin _ (HS.out.called HX.out.2)).mono ?_
  rintro e w' ⟨b,rfl,hb,hB⟩
  obtain rfl:=flag_true hb HI0.out
  have HY:=hid_of (HX.out.called hB)
  clear HX hB hb
  clear l0 a0 a1 a2 a3 a4 a5 a6 a7 a8 a9 a10 a11 a12
  have HX:=HY
  clear HY
  have l0:=block_lt HX.out.1
  obtain⟨a0,a1,a2,a3,a4,a5,a6,a7,a8,a9,a10,a11,a12⟩:=zqc HX.out.1
  go_wp2_with fail
  refine (implKept ka kn kc K _ (HK.out.called HX.out.2) hk' HM.out).mono ?_
  rintro e w' ⟨b,rfl,hb,hB⟩
  obtain rfl:=flag_false hb HQ.out
  have HY:=hid_of (HX.out.called hB)
  clear HX hB hb
  clear l0 a0 a1 a2 a3 a4 a5 a6 a7 a8 a9 a10 a11 a12
  have HX:=HY
  clear HY
  have l0:=block_lt HX.out.1
  obtain⟨a0,a1,a2,a3,a4,a5,a6,a7,a8,a9,a10,a11,a12⟩:=zqc HX.out.1
  go_wp2_with fail
  go_ret
  exact HN.out _ HX.out.2
 have HK0:=hid_of hK0
 clear hK0
 have HN:=hid_of (HYes.out (HR.out.mpr ⟨⟨HA.out,HB0.out,HE.out⟩,HT0.out,HC0.out,HI0.out,HK0.out⟩))
 clear HNo HYes HR
 have HX:Hid (PBox w (w.alloc (.cells #[.int .i64 hw,.int .i64 hh,.int .i64 (d:Int),.int .i64 hc',.bool lace,.slice ta tn tc,.slice ca cn cc,.int .i64 rw',.int .i64 rh,.int .i64 rc,.int .i64 rd,.slice sa sn sc,.slice ka kn kc] 37)) #[.int .i64 hw,.int .i64 hh,.int .i64 (d:Int),.int .i64 hc',.bool lace,.slice ta tn tc,.slice ca cn cc,.int .i64 rw',.int .i64 rh,.int .i64 rc,.int .i64 rd,.slice sa sn sc,.slice ka kn kc]):=⟨heap_alloc_new w _,bstart w _⟩
 have l0:=block_lt HX.out.1
 obtain⟨a0,a1,a2,a3,a4,a5,a6,a7,a8,a9,a10,a11,a12⟩:=zqc HX.out.1
 go_enter Tryz.func74,Tryz.ntmps74
 go_wp2_with fail
 have HS0:PBox w (w.alloc (.cells #[.int .i64 hw,.int .i64 hh,.int .i64 (d:Int),.int .i64 hc',.bool lace,.slice ta tn tc,.slice ca cn cc,.int .i64 rw',.int .i64 rh,.int .i64 rc,.int .i64 rd,.slice sa sn sc,.slice ka kn kc] 37)).drew #[.int .i64 hw,.int .i64 hh,.int .i64 (d:Int),.int .i64 hc',.bool lace,.slice ta tn tc,.slice ca cn cc,.int .i64 rw',.int .i64 rh,.int .i64 rc,.int .i64 rd,.slice sa sn sc,.slice ka kn kc]:=HX.out.drew
 clear HX l0 a0 a1 a2 a3 a4 a5 a6 a7 a8 a9 a10 a11 a12
 refine wp_region_held (S:=fun u=>PBox w u #[.int .i64 hw,.int .i64 hh,.int .i64 (d:Int),.int .i64 hc',.bool lace,.slice ta tn tc,.slice ca cn cc,.int .i64 rw',.int .i64 rh,.int .i64 rc,.int .i64 rd,.slice sa sn sc,.slice ka kn kc]) (by kernel_rfl) ?_
 show wpAnyH _ _ _ _ _ _ _ _ (w.alloc _).drew
 generalize (w.alloc _).drew=u0 at HS0 ⊢
 refine zqt 0 (.pointer (some ⟨w.heap.size,0,none⟩)) rfl ?_ HS0 ?_
 ·intro w' _
  go_simp
 simp only [Act.put,zga,zgb,zsa,zsb,zsc]
 refine zqt 1 (.agg #[.int .i64 hw,.int .i64 hh,.int .i64 (d:Int),.int .i64 hc',.bool lace]) rfl ?_ HS0 ?_
 ·intro w' hS
  obtain⟨c0,c1,c2,c3,c4,c5,c6,c7,c8,c9,c10,c11,c12⟩:=zqc hS.1; have cl:=block_lt hS.1
  go_simp
 simp only [Act.put,zga,zgb,zgc,zsa,zsb,zsc]
 refine zqr 2 rfl (fun K hK=>?_)
 refine if_wanted (wanted_none rfl) ?_
 simp only [zga,zgb,zgc]
 go_simp
 refine (hhd _).mono ?_
 rintro e u1 ⟨rfl,hB⟩
 have HT:=HS0.called hB
 refine hK.out _ _ HT (fun HS1=>?_)
 clear hK K hB HT
 refine zqt 3 (.bool false) rfl ?_ HS1 ?_
 ·intro w' _
  go_simp
 simp only [Act.put,zga,zgb,zgc,zsa,zsb,zsc]
 refine zqt 4 (.bool false) rfl ?_ HS1 ?_
 ·intro w' _
  go_simp
 simp only [Act.put,zga,zgb,zgc,zsa,zsb,zsc]
 refine zqt 5 (.pointer (some ⟨w.heap.size,7,none⟩)) rfl ?_ HS1 ?_
 ·intro w' _
  go_simp
 simp only [Act.put,zga,zgb,zgc,zsa,zsb,zsc]
 refine zqt 6 (.agg #[.int .i64 rw',.int .i64 rh,.int .i64 rc,.int .i64 rd,.slice sa sn sc]) rfl ?_ HS1 ?_
 ·intro w' hS
  obtain⟨c0,c1,c2,c3,c4,c5,c6,c7,c8,c9,c10,c11,c12⟩:=zqc hS.1; have cl:=block_lt hS.1
  go_simp
 simp only [Act.put,zga,zgb,zgc,zsa,zsb,zsc]
 refine zqr 7 rfl (fun K hK=>?_)
 refine if_wanted (wanted_yes rfl rfl) ?_
 simp only [zga,zgb,zgc]
 go_simp
 refine (implRaster rw' rh rc rd sa sn sc S _ (HS.out.called HS1.2) hs' HCP.out.1 HCP.out.2).mono ?_
 rintro e u2 ⟨b,rfl,hb,hB⟩
 obtain rfl:=flag_true hb HB0.out; clear hb
 have HT:=HS1.called hB
 refine hK.out _ _ HT (fun HS2=>?_)
 clear hK K hB HT
 refine zqt 8 (.bool false) rfl ?_ HS2 ?_
 ·intro w' _
  go_simp
 simp only [Act.put,zga,zgb,zgc,zsa,zsb,zsc]
 refine zqt 9 (.bool false) rfl ?_ HS2 ?_
 ·intro w' _
  go_simp
 simp only [Act.put,zga,zgb,zgc,zsa,zsb,zsc]
 refine zqt 10 (.bool false) rfl ?_ HS2 ?_
 ·intro w' _
  go_simp
 simp only [Act.put,zga,zgb,zgc,zsa,zsb,zsc]
 refine zqt 11 (.pointer (some ⟨w.heap.size,7,none⟩)) rfl ?_ HS2 ?_
 ·intro w' _
  go_simp
 simp only [Act.put,zga,zgb,zgc,zsa,zsb,zsc]
 refine zqt 12 (.agg #[.int .i64 rw',.int .i64 rh,.int .i64 rc,.int .i64 rd,.slice sa sn sc]) rfl ?_ HS2 ?_
 ·intro w' hS
  obtain⟨c0,c1,c2,c3,c4,c5,c6,c7,c8,c9,c10,c11,c12⟩:=zqc hS.1; have cl:=block_lt hS.1
  go_simp
 simp only [Act.put,zga,zgb,zgc,zsa,zsb,zsc]
 refine zqt 13 (.pointer (some ⟨w.heap.size,0,none⟩)) rfl ?_ HS2 ?_
 ·intro w' _
  go_simp
 simp only [Act.put,zga,zgb,zgc,zsa,zsb,zsc]
 refine zqt 14 (.agg #[.int .i64 hw,.int .i64 hh,.int .i64 (d:Int),.int .i64 hc',.bool lace]) rfl ?_ HS2 ?_
 ·intro w' hS
  obtain⟨c0,c1,c2,c3,c4,c5,c6,c7,c8,c9,c10,c11,c12⟩:=zqc hS.1; have cl:=block_lt hS.1
  go_simp
 simp only [Act.put,zga,zgb,zgc,zsa,zsb,zsc]
 refine zqr 15 rfl (fun K hK=>?_)
 refine if_wanted (wanted_yes rfl rfl) ?_
 simp only [zga,zgb,zgc]
 go_simp
 refine (shape_any _ _ _ _ _ _).mono ?_
 rintro e u3 ⟨rfl,hB⟩
 have HT:=HS2.called hB
 refine hK.out _ _ HT (fun HS3=>?_)
 clear hK K hB HT
 refine zqr 16 rfl (fun K hK=>?_)
 refine if_wanted (wanted_yes rfl rfl) ?_
 simp only [zga,zgb,zgc]
 go_simp
 refine (hsh _).mono ?_
 rintro e u4 ⟨rfl,hB⟩
 have HT:=HS3.called hB
 refine hK.out _ _ HT (fun HS4=>?_)
 clear hK K hB HT
 refine zqt 17 (.bool false) rfl ?_ HS4 ?_
 ·intro w' _
  go_simp
 simp only [Act.put,zga,zgb,zgc,zsa,zsb,zsc]
 refine zqt 18 (.bool false) rfl ?_ HS4 ?_
 ·intro w' _
  go_simp
 simp only [Act.put,zga,zgb,zgc,zsa,zsb,zsc]
 refine wpAnyH_done (by kernel_rfl) ?_ _
 have HX:=hid_of HS4
 clear HS4
 have l0:=block_lt HX.out.1
 obtain⟨a0,a1,a2,a3,a4,a5,a6,a7,a8,a9,a10,a11,a12⟩:=zqc HX.out.1
 go_wp2_with fail
 refine (fits_any hw hh hc' d lace ta tn tc T _ (HT.out.called HX.out.2) ht' hd16).mono ?_
 rintro e w' ⟨b,rfl,hb,hB⟩
 obtain rfl:=flag_true hb HT0.out
 have HY:=hid_of (HX.out.called hB)
 clear HX hB hb
 clear l0 a0 a1 a2 a3 a4 a5 a6 a7 a8 a9 a10 a11 a12
 have HX:=HY
 clear HY
 have l0:=block_lt HX.out.1
 obtain⟨a0,a1,a2,a3,a4,a5,a6,a7,a8,a9,a10,a11,a12⟩:=zqc HX.out.1
 go_wp2_with fail
 refine (implClr hw hh hc' tn d lace ca cn cc C _ (HC.out.called HX.out.2) hc2 hd16).mono ?_
 rintro e w' ⟨b,rfl,hb,hB⟩
 obtain rfl:=flag_true hb HC0.out
 have HY:=hid_of (HX.out.called hB)
 clear HX hB hb
 clear l0 a0 a1 a2 a3 a4 a5 a6 a7 a8 a9 a10 a11 a12
 have HX:=HY
 clear HY
 have l0:=block_lt HX.out.1
 obtain⟨a0,a1,a2,a3,a4,a5,a6,a7,a8,a9,a10,a11,a12⟩:=zqc HX.out.1
 go_wp2_with fail
 refine (hin _ (HS.out.called HX.out.2)).mono ?_
 rintro e w' ⟨b,rfl,hb,hB⟩
 obtain rfl:=flag_true hb HI0.out
 have HY:=hid_of (HX.out.called hB)
 clear HX hB hb
 clear l0 a0 a1 a2 a3 a4 a5 a6 a7 a8 a9 a10 a11 a12
 have HX:=HY
 clear HY
 have l0:=block_lt HX.out.1
 obtain⟨a0,a1,a2,a3,a4,a5,a6,a7,a8,a9,a10,a11,a12⟩:=zqc HX.out.1
 go_wp2_with fail
 refine (implKept ka kn kc K _ (HK.out.called HX.out.2) hk' HM.out).mono ?_
 rintro e w' ⟨b,rfl,hb,hB⟩
 obtain rfl:=flag_true hb HK0.out
 have HY:=hid_of (HX.out.called hB)
 clear HX hB hb
 clear l0 a0 a1 a2 a3 a4 a5 a6 a7 a8 a9 a10 a11 a12
 have HX:=HY
 clear HY
 have l0:=block_lt HX.out.1
 obtain⟨a0,a1,a2,a3,a4,a5,a6,a7,a8,a9,a10,a11,a12⟩:=zqc HX.out.1
 go_wp2_with fail
 go_ret
 exact HN.out _ HX.out.2
end Go.Proofs.YtkpbfmdnjnohlaaGreat
