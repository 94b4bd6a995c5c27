/-
  Texts of the proof, put together.
-/
import Derived.Test.YtkpbfmdnjnohlaaGreatRd12
import Derived.Test.YtkpbfmdnjnohlaaGreatRd13
namespace Go.Proofs.YtkpbfmdnjnohlaaGreat
open Go.RowKit Go.Joins OutMath PutMath RastMath HeadMath ChunkMath
def PBox (w W:World) (A:Array Value):Prop:=W.heap[w.heap.size]?=some (.cells A 37 (0,0))∧Below w.heap.size w W
theorem PBox.called {w W W':World} {A:Array Value} (h:PBox w W A) (hb:Below W.heap.size W W'):PBox w W' A:=⟨(hb.block _ (block_lt h.1)).trans h.1,bnext h.2 hb⟩
def PngPost (p:Pic) (w:World) (e:Ending) (w':World):Prop:=∃ b,e=.returned (.bool b)∧(b=true↔PngR p)∧Below w.heap.size w w'
theorem png_no {p:Pic} {w w':World} (h:¬ PngR p) (hb:Below w.heap.size w w'):PngPost p w (.returned (.bool false)) w':=⟨false,rfl,⟨fun e=>(by cases e),fun k=>absurd k h⟩,hb⟩
theorem png_yes {p:Pic} {w w':World} (h:PngR p) (hb:Below w.heap.size w w'):PngPost p w (.returned (.bool true)) w':=⟨true,rfl,⟨fun _=>h,fun _=>rfl⟩,hb⟩
theorem flag_true {b:Bool} {P:Prop} (h:b=true↔P) (p:P):b=true:=h.mpr p
theorem flag_false {b:Bool} {P:Prop} (h:b=true↔P) (p:¬ P):b=false:=by
 cases b
 ·rfl
 ·exact absurd (h.mp rfl) p
def InJ (w W:World) (A:Array Value) (tn:Nat) (S:Nat→Int) (j:Nat):Prop:=PBox w W A∧∀ i,i < j→S i < (tn:Int)
set_option maxRecDepth 100000 in
set_option maxHeartbeats 6400000 in
theorem specPngOk (p:Pic) (q:PicA) (w:World) (hP:PngIn w p q) (hZ:PngSz p):
  Calls Tryz.prog 69 #[pngV p q] w (PngPost p w):=by
 obtain⟨hw,hh,hd,hc',lace,tn,T,cn,C,rw',rh,rc,rd,sn,S,kn,K⟩:=p
 obtain⟨ta,tc,ca,cc,sa,sc,ka,kc⟩:=q
 have HT:Hid (RgbCame w ta tn T):=hid_of hP.t
 have HC:Hid (Came w ca cn C):=hid_of hP.c
 have HS:Hid (Came w sa sn S):=hid_of hP.s
 have HK:Hid (KCame w ka kn K):=hid_of hP.k
 have ht':tn≤1048576:=hZ.t
 have hc2:cn≤1048576:=hZ.c
 have hs':sn≤1048576:=hZ.s
 have hk':kn≤1048576:=hZ.k
 have HM:Hid (∀ i,i < kn→(K i).2.size≤1048576):=fun i hi=>(hZ.m i hi).2
 clear hP hZ
 suffices hsuf:∀ p0:Pic,(PngR p0↔PngR ⟨hw,hh,hd,hc',lace,tn,T,cn,C,rw',rh,rc,rd,sn,S,kn,K⟩)→Calls Tryz.prog 69 #[.agg #[.int .i64 hw,.int .i64 hh,.int .i64 hd,.int .i64 hc',.bool lace,.slice ta tn tc,.slice ca cn cc,.int .i64 rw',.int .i64 rh,.int .i64 rc,.int .i64 rd,.slice sa sn sc,.slice ka kn kc]] w (PngPost p0 w) from hsuf _ Iff.rfl
 intro p0 hp0
 have HR:Hid (PngR p0↔(HeadR hw hh hd hc'∧RasR rw' rh rc rd sn S∧rw'=hw∧rh=hh∧rc=hc'∧rd=hd)∧FitsR hc' hd tn T∧ClrR hd hc' tn cn C∧InR hc' tn sn S∧KeptR kn K):=hp0
 have HNo:Hid (¬ PngR p0→∀ W,Below w.heap.size w W→PngPost p0 w (.returned (.bool false)) W):=fun h W b=>png_no h b
 have HYes:Hid (PngR p0→∀ W,Below w.heap.size w W→PngPost p0 w (.returned (.bool true)) W):=fun h W b=>png_yes h b
 clear hp0
 by_cases hA:HeadR hw hh hd hc'
 case neg=>
  have HN:=hid_of (HNo.out fun h=>hA (HR.out.mp h).1.1)
  have hhd:=fun W=>specHeadOk hw hh hd hc' lace W
  simp only [decide_eq_false hA] at hhd
  clear HNo HYes HR hA
  have H0:Hid (PBox w (w.alloc (.cells #[.int .i64 hw,.int .i64 hh,.int .i64 hd,.int .i64 hc',.bool lace,.slice ta tn tc,.slice ca cn cc,.int .i64 rw',.int .i64 rh,.int .i64 rc,.int .i64 rd,.slice sa sn sc,.slice ka kn kc] 37)) #[.int .i64 hw,.int .i64 hh,.int .i64 hd,.int .i64 hc',.bool lace,.slice ta tn tc,.slice ca cn cc,.int .i64 rw',.int .i64 rh,.int .i64 rc,.int .i64 rd,.slice sa sn sc,.slice ka kn kc]):=⟨heap_alloc_new w _,bstart w _⟩
  go_enter Tryz.func69,Tryz.ntmps69
  go_wp2_with fail
  refine (hhd _).mono ?_
  rintro e w1 ⟨rfl,hB⟩
  have H1:=hid_of (H0.out.called hB)
  clear hB H0
  go_wp2_with fail
  go_ret
  exact HN.out _ H1.out.2
 have hhd:=fun W=>specHeadOk hw hh hd hc' lace W
 simp only [decide_eq_true hA] at hhd
 obtain⟨d,hd',hd16⟩:∃ d:Nat,hd=(d:Int)∧d≤16:=by
  have:=five_range (depth_five hA.2.2)
  exact⟨hd.toNat,by omega,by omega⟩
 subst hd'
 have HA:=hid_of hA
 clear hA
 by_cases hB0:RasR rw' rh rc rd sn S
 case neg=>
  have HN:=hid_of (HNo.out fun h=>hB0 (HR.out.mp h).1.2.1)
  have HQ:=hid_of hB0
  clear HNo HYes HR hB0
  have H0:Hid (PBox w (w.alloc (.cells #[.int .i64 hw,.int .i64 hh,.int .i64 (d:Int),.int .i64 hc',.bool lace,.slice ta tn tc,.slice ca cn cc,.int .i64 rw',.int .i64 rh,.int .i64 rc,.int .i64 rd,.slice sa sn sc,.slice ka kn kc] 37)) #[.int .i64 hw,.int .i64 hh,.int .i64 (d:Int),.int .i64 hc',.bool lace,.slice ta tn tc,.slice ca cn cc,.int .i64 rw',.int .i64 rh,.int .i64 rc,.int .i64 rd,.slice sa sn sc,.slice ka kn kc]):=⟨heap_alloc_new w _,bstart w _⟩
  go_enter Tryz.func69,Tryz.ntmps69
  go_wp2_with fail
  refine (hhd _).mono ?_
  rintro e w1 ⟨rfl,hB⟩
  have H1:=hid_of (H0.out.called hB)
  clear hB H0
  have l0:=block_lt H1.out.1
  obtain⟨a7,a8,a9,a10,a11⟩:=zqg H1.out.1
  go_wp2_with fail
  clear l0 a7 a8 a9 a10 a11
  refine (specRaster rw' rh rc rd sa sn sc S _ (HS.out.called H1.out.2) hs').mono ?_
  rintro e w2 ⟨b,rfl,hb,hB⟩
  have H2:=hid_of (H1.out.called hB)
  obtain rfl:=flag_false hb HQ.out
  clear hB hb H1
  go_wp2_with fail
  go_ret
  exact HN.out _ H2.out.2
 have HB0:=hid_of hB0
 clear hB0
 by_cases h1:rw'=hw
 case neg=>
  have HN:=hid_of (HNo.out fun h=>h1 (HR.out.mp h).1.2.2.1)
  have n1:(rw' != hw)=true:=by simpa using h1
  clear HNo HYes HR h1
  have H0:Hid (PBox w (w.alloc (.cells #[.int .i64 hw,.int .i64 hh,.int .i64 (d:Int),.int .i64 hc',.bool lace,.slice ta tn tc,.slice ca cn cc,.int .i64 rw',.int .i64 rh,.int .i64 rc,.int .i64 rd,.slice sa sn sc,.slice ka kn kc] 37)) #[.int .i64 hw,.int .i64 hh,.int .i64 (d:Int),.int .i64 hc',.bool lace,.slice ta tn tc,.slice ca cn cc,.int .i64 rw',.int .i64 rh,.int .i64 rc,.int .i64 rd,.slice sa sn sc,.slice ka kn kc]):=⟨heap_alloc_new w _,bstart w _⟩
  go_enter Tryz.func69,Tryz.ntmps69
  go_wp2_with fail
  refine (hhd _).mono ?_
  rintro e w1 ⟨rfl,hB⟩
  have H1:=hid_of (H0.out.called hB)
  clear hB H0
  have l0:=block_lt H1.out.1
  obtain⟨a7,a8,a9,a10,a11⟩:=zqg H1.out.1
  go_wp2_with fail
  clear l0 a7 a8 a9 a10 a11
  refine (specRaster rw' rh rc rd sa sn sc S _ (HS.out.called H1.out.2) hs').mono ?_
  rintro e w2 ⟨b,rfl,hb,hB⟩
  have H2:=hid_of (H1.out.called hB)
  obtain rfl:=flag_true hb HB0.out
  clear hB hb H1
  have l0:=block_lt H2.out.1
  obtain⟨a0,a1,a2,a3,a4,a5,a6,a7,a8,a9,a10,a11,a12⟩:=zqc H2.out.1
  go_wp2_with fail
  go_ret
  exact HN.out _ H2.out.2
 have n1:(rw' != hw)=false:=by simpa using h1
 have E1:=hid_of h1
 clear h1
 by_cases h2:rh=hh
 case neg=>
  have HN:=hid_of (HNo.out fun h=>h2 (HR.out.mp h).1.2.2.2.1)
  have n2:(rh != hh)=true:=by simpa using h2
  clear HNo HYes HR h2
  have H0:Hid (PBox w (w.alloc (.cells #[.int .i64 hw,.int .i64 hh,.int .i64 (d:Int),.int .i64 hc',.bool lace,.slice ta tn tc,.slice ca cn cc,.int .i64 rw',.int .i64 rh,.int .i64 rc,.int .i64 rd,.slice sa sn sc,.slice ka kn kc] 37)) #[.int .i64 hw,.int .i64 hh,.int .i64 (d:Int),.int .i64 hc',.bool lace,.slice ta tn tc,.slice ca cn cc,.int .i64 rw',.int .i64 rh,.int .i64 rc,.int .i64 rd,.slice sa sn sc,.slice ka kn kc]):=⟨heap_alloc_new w _,bstart w _⟩
  go_enter Tryz.func69,Tryz.ntmps69
  go_wp2_with fail
  refine (hhd _).mono ?_
  rintro e w1 ⟨rfl,hB⟩
  have H1:=hid_of (H0.out.called hB)
  clear hB H0
  have l0:=block_lt H1.out.1
  obtain⟨a7,a8,a9,a10,a11⟩:=zqg H1.out.1
  go_wp2_with fail
  clear l0 a7 a8 a9 a10 a11
  refine (specRaster rw' rh rc rd sa sn sc S _ (HS.out.called H1.out.2) hs').mono ?_
  rintro e w2 ⟨b,rfl,hb,hB⟩
  have H2:=hid_of (H1.out.called hB)
  obtain rfl:=flag_true hb HB0.out
  clear hB hb H1
  have l0:=block_lt H2.out.1
  obtain⟨a0,a1,a2,a3,a4,a5,a6,a7,a8,a9,a10,a11,a12⟩:=zqc H2.out.1
  go_wp2_with fail
  go_ret
  exact HN.out _ H2.out.2
 have n2:(rh != hh)=false:=by simpa using h2
 have E2:=hid_of h2
 clear h2
 by_cases h3:rc=hc'
 case neg=>
  have HN:=hid_of (HNo.out fun h=>h3 (HR.out.mp h).1.2.2.2.2.1)
  have n3:(rc != hc')=true:=by simpa using h3
  clear HNo HYes HR h3
  have H0:Hid (PBox w (w.alloc (.cells #[.int .i64 hw,.int .i64 hh,.int .i64 (d:Int),.int .i64 hc',.bool lace,.slice ta tn tc,.slice ca cn cc,.int .i64 rw',.int .i64 rh,.int .i64 rc,.int .i64 rd,.slice sa sn sc,.slice ka kn kc] 37)) #[.int .i64 hw,.int .i64 hh,.int .i64 (d:Int),.int .i64 hc',.bool lace,.slice ta tn tc,.slice ca cn cc,.int .i64 rw',.int .i64 rh,.int .i64 rc,.int .i64 rd,.slice sa sn sc,.slice ka kn kc]):=⟨heap_alloc_new w _,bstart w _⟩
  go_enter Tryz.func69,Tryz.ntmps69
  go_wp2_with fail
  refine (hhd _).mono ?_
  rintro e w1 ⟨rfl,hB⟩
  have H1:=hid_of (H0.out.called hB)
  clear hB H0
  have l0:=block_lt H1.out.1
  obtain⟨a7,a8,a9,a10,a11⟩:=zqg H1.out.1
  go_wp2_with fail
  clear l0 a7 a8 a9 a10 a11
  refine (specRaster rw' rh rc rd sa sn sc S _ (HS.out.called H1.out.2) hs').mono ?_
  rintro e w2 ⟨b,rfl,hb,hB⟩
  have H2:=hid_of (H1.out.called hB)
  obtain rfl:=flag_true hb HB0.out
  clear hB hb H1
  have l0:=block_lt H2.out.1
  obtain⟨a0,a1,a2,a3,a4,a5,a6,a7,a8,a9,a10,a11,a12⟩:=zqc H2.out.1
  go_wp2_with fail
  go_ret
  exact HN.out _ H2.out.2
 have n3:(rc != hc')=false:=by simpa using h3
 have E3:=hid_of h3
 clear h3
 by_cases h4:rd=(d:Int)
 case neg=>
  have HN:=hid_of (HNo.out fun h=>h4 (HR.out.mp h).1.2.2.2.2.2)
  have n4:(rd != (d:Int))=true:=by simpa using h4
  clear HNo HYes HR h4
  have H0:Hid (PBox w (w.alloc (.cells #[.int .i64 hw,.int .i64 hh,.int .i64 (d:Int),.int .i64 hc',.bool lace,.slice ta tn tc,.slice ca cn cc,.int .i64 rw',.int .i64 rh,.int .i64 rc,.int .i64 rd,.slice sa sn sc,.slice ka kn kc] 37)) #[.int .i64 hw,.int .i64 hh,.int .i64 (d:Int),.int .i64 hc',.bool lace,.slice ta tn tc,.slice ca cn cc,.int .i64 rw',.int .i64 rh,.int .i64 rc,.int .i64 rd,.slice sa sn sc,.slice ka kn kc]):=⟨heap_alloc_new w _,bstart w _⟩
  go_enter Tryz.func69,Tryz.ntmps69
  go_wp2_with fail
  refine (hhd _).mono ?_
  rintro e w1 ⟨rfl,hB⟩
  have H1:=hid_of (H0.out.called hB)
  clear hB H0
  have l0:=block_lt H1.out.1
  obtain⟨a7,a8,a9,a10,a11⟩:=zqg H1.out.1
  go_wp2_with fail
  clear l0 a7 a8 a9 a10 a11
  refine (specRaster rw' rh rc rd sa sn sc S _ (HS.out.called H1.out.2) hs').mono ?_
  rintro e w2 ⟨b,rfl,hb,hB⟩
  have H2:=hid_of (H1.out.called hB)
  obtain rfl:=flag_true hb HB0.out
  clear hB hb H1
  have l0:=block_lt H2.out.1
  obtain⟨a0,a1,a2,a3,a4,a5,a6,a7,a8,a9,a10,a11,a12⟩:=zqc H2.out.1
  go_wp2_with fail
  go_ret
  exact HN.out _ H2.out.2
 have n4:(rd != (d:Int))=false:=by simpa using h4
 have E4:=hid_of h4
 clear h4
 have HE:Hid (rw'=hw∧rh=hh∧rc=hc'∧rd=(d:Int)):=⟨E1.out,E2.out,E3.out,E4.out⟩
 clear E1 E2 E3 E4
 by_cases hC0:ClrR (d:Int) hc' tn cn C
 case neg=>
  have HN:=hid_of (HNo.out fun h=>hC0 (HR.out.mp h).2.2.1)
  have HQ:=hid_of hC0
  clear HNo HYes HR hC0
  have H0:Hid (PBox w (w.alloc (.cells #[.int .i64 hw,.int .i64 hh,.int .i64 (d:Int),.int .i64 hc',.bool lace,.slice ta tn tc,.slice ca cn cc,.int .i64 rw',.int .i64 rh,.int .i64 rc,.int .i64 rd,.slice sa sn sc,.slice ka kn kc] 37)) #[.int .i64 hw,.int .i64 hh,.int .i64 (d:Int),.int .i64 hc',.bool lace,.slice ta tn tc,.slice ca cn cc,.int .i64 rw',.int .i64 rh,.int .i64 rc,.int .i64 rd,.slice sa sn sc,.slice ka kn kc]):=⟨heap_alloc_new w _,bstart w _⟩
  go_enter Tryz.func69,Tryz.ntmps69
  go_wp2_with fail
  refine (hhd _).mono ?_
  rintro e w1 ⟨rfl,hB⟩
  have H1:=hid_of (H0.out.called hB)
  clear hB H0
  have l0:=block_lt H1.out.1
  obtain⟨a7,a8,a9,a10,a11⟩:=zqg H1.out.1
  go_wp2_with fail
  clear l0 a7 a8 a9 a10 a11
  refine (specRaster rw' rh rc rd sa sn sc S _ (HS.out.called H1.out.2) hs').mono ?_
  rintro e w2 ⟨b,rfl,hb,hB⟩
  have H2:=hid_of (H1.out.called hB)
  obtain rfl:=flag_true hb HB0.out
  clear hB hb H1
  have l0:=block_lt H2.out.1
  obtain⟨a0,a1,a2,a3,a4,a5,a6,a7,a8,a9,a10,a11,a12⟩:=zqc H2.out.1
  go_wp2_with fail
  clear l0 a0 a1 a2 a3 a4 a5 a6 a7 a8 a9 a10 a11 a12
  refine (specClr hw hh hc' tn d lace ca cn cc C _ (HC.out.called H2.out.2) hc2 hd16).mono ?_
  rintro e w3 ⟨b,rfl,hb,hB⟩
  have H3:=hid_of (H2.out.called hB)
  obtain rfl:=flag_false hb HQ.out
  clear hB hb H2
  go_wp2_with fail
  go_ret
  exact HN.out _ H3.out.2
 have HC0:=hid_of hC0
 clear hC0
 by_cases hD:KeptR kn K
 case neg=>
  have HN:=hid_of (HNo.out fun h=>hD (HR.out.mp h).2.2.2.2)
  have HQ:=hid_of hD
  clear HNo HYes HR hD
  have H0:Hid (PBox w (w.alloc (.cells #[.int .i64 hw,.int .i64 hh,.int .i64 (d:Int),.int .i64 hc',.bool lace,.slice ta tn tc,.slice ca cn cc,.int .i64 rw',.int .i64 rh,.int .i64 rc,.int .i64 rd,.slice sa sn sc,.slice ka kn kc] 37)) #[.int .i64 hw,.int .i64 hh,.int .i64 (d:Int),.int .i64 hc',.bool lace,.slice ta tn tc,.slice ca cn cc,.int .i64 rw',.int .i64 rh,.int .i64 rc,.int .i64 rd,.slice sa sn sc,.slice ka kn kc]):=⟨heap_alloc_new w _,bstart w _⟩
  go_enter Tryz.func69,Tryz.ntmps69
  go_wp2_with fail
  refine (hhd _).mono ?_
  rintro e w1 ⟨rfl,hB⟩
  have H1:=hid_of (H0.out.called hB)
  clear hB H0
  have l0:=block_lt H1.out.1
  obtain⟨a7,a8,a9,a10,a11⟩:=zqg H1.out.1
  go_wp2_with fail
  clear l0 a7 a8 a9 a10 a11
  refine (specRaster rw' rh rc rd sa sn sc S _ (HS.out.called H1.out.2) hs').mono ?_
  rintro e w2 ⟨b,rfl,hb,hB⟩
  have H2:=hid_of (H1.out.called hB)
  obtain rfl:=flag_true hb HB0.out
  clear hB hb H1
  have l0:=block_lt H2.out.1
  obtain⟨a0,a1,a2,a3,a4,a5,a6,a7,a8,a9,a10,a11,a12⟩:=zqc H2.out.1
  go_wp2_with fail
  clear l0 a0 a1 a2 a3 a4 a5 a6 a7 a8 a9 a10 a11 a12
  refine (specClr hw hh hc' tn d lace ca cn cc C _ (HC.out.called H2.out.2) hc2 hd16).mono ?_
  rintro e w3 ⟨b,rfl,hb,hB⟩
  have H3:=hid_of (H2.out.called hB)
  obtain rfl:=flag_true hb HC0.out
  clear hB hb H2
  have l0:=block_lt H3.out.1
  obtain⟨a0,a1,a2,a3,a4,a5,a6,a7,a8,a9,a10,a11,a12⟩:=zqc H3.out.1
  go_wp2_with fail
  clear l0 a0 a1 a2 a3 a4 a5 a6 a7 a8 a9 a10 a11 a12
  refine (specKept ka kn kc K _ (HK.out.called H3.out.2) hk' HM.out).mono ?_
  rintro e w4 ⟨b,rfl,hb,rfl⟩
  obtain rfl:=flag_false hb HQ.out
  clear hb
  go_wp2_with fail
  go_ret
  exact HN.out _ H3.out.2
 have HD:=hid_of hD
 clear hD
 by_cases h3:hc'=3
 case neg=>
  have n3':(hc' != 3)=true:=by simpa using h3
  by_cases ht:tn=0
  ·have HY:=hid_of (HYes.out (HR.out.mpr ⟨⟨HA.out,HB0.out,HE.out⟩,by unfold FitsR; rw [if_neg h3]; exact ht,HC0.out,fun e=>absurd e h3,HD.out⟩))
   have n5:((tn:Int) == 0)=true:=by simp [ht]
   clear HNo HYes HR h3 ht
   have H0:Hid (PBox w (w.alloc (.cells #[.int .i64 hw,.int .i64 hh,.int .i64 (d:Int),.int .i64 hc',.bool lace,.slice ta tn tc,.slice ca cn cc,.int .i64 rw',.int .i64 rh,.int .i64 rc,.int .i64 rd,.slice sa sn sc,.slice ka kn kc] 37)) #[.int .i64 hw,.int .i64 hh,.int .i64 (d:Int),.int .i64 hc',.bool lace,.slice ta tn tc,.slice ca cn cc,.int .i64 rw',.int .i64 rh,.int .i64 rc,.int .i64 rd,.slice sa sn sc,.slice ka kn kc]):=⟨heap_alloc_new w _,bstart w _⟩
   go_enter Tryz.func69,Tryz.ntmps69
   go_wp2_with fail
   refine (hhd _).mono ?_
   rintro e w1 ⟨rfl,hB⟩
   have H1:=hid_of (H0.out.called hB)
   clear hB H0
   have l0:=block_lt H1.out.1
   obtain⟨a7,a8,a9,a10,a11⟩:=zqg H1.out.1
   go_wp2_with fail
   clear l0 a7 a8 a9 a10 a11
   refine (specRaster rw' rh rc rd sa sn sc S _ (HS.out.called H1.out.2) hs').mono ?_
   rintro e w2 ⟨b,rfl,hb,hB⟩
   have H2:=hid_of (H1.out.called hB)
   obtain rfl:=flag_true hb HB0.out
   clear hB hb H1
   have l0:=block_lt H2.out.1
   obtain⟨a0,a1,a2,a3,a4,a5,a6,a7,a8,a9,a10,a11,a12⟩:=zqc H2.out.1
   go_wp2_with fail
   clear l0 a0 a1 a2 a3 a4 a5 a6 a7 a8 a9 a10 a11 a12
   refine (specClr hw hh hc' tn d lace ca cn cc C _ (HC.out.called H2.out.2) hc2 hd16).mono ?_
   rintro e w3 ⟨b,rfl,hb,hB⟩
   have H3:=hid_of (H2.out.called hB)
   obtain rfl:=flag_true hb HC0.out
   clear hB hb H2
   have l0:=block_lt H3.out.1
   obtain⟨a0,a1,a2,a3,a4,a5,a6,a7,a8,a9,a10,a11,a12⟩:=zqc H3.out.1
   go_wp2_with fail
   clear l0 a0 a1 a2 a3 a4 a5 a6 a7 a8 a9 a10 a11 a12
   refine (specKept ka kn kc K _ (HK.out.called H3.out.2) hk' HM.out).mono ?_
   rintro e w4 ⟨b,rfl,hb,rfl⟩
   obtain rfl:=flag_true hb HD.out
   clear hb
   have l0:=block_lt H3.out.1
   obtain⟨a0,a1,a2,a3,a4,a5,a6,a7,a8,a9,a10,a11,a12⟩:=zqc H3.out.1
   go_wp2_with fail
   go_ret
   exact HY.out _ H3.out.2
  ·have HN:=hid_of (HNo.out fun h=>ht (by have:=(HR.out.mp h).2.1; unfold FitsR at this; rwa [if_neg h3] at this))
   have n5:((tn:Int) == 0)=false:=by simp only [beq_eq_false_iff_ne,ne_eq]; omega
   clear HNo HYes HR h3 ht
   have H0:Hid (PBox w (w.alloc (.cells #[.int .i64 hw,.int .i64 hh,.int .i64 (d:Int),.int .i64 hc',.bool lace,.slice ta tn tc,.slice ca cn cc,.int .i64 rw',.int .i64 rh,.int .i64 rc,.int .i64 rd,.slice sa sn sc,.slice ka kn kc] 37)) #[.int .i64 hw,.int .i64 hh,.int .i64 (d:Int),.int .i64 hc',.bool lace,.slice ta tn tc,.slice ca cn cc,.int .i64 rw',.int .i64 rh,.int .i64 rc,.int .i64 rd,.slice sa sn sc,.slice ka kn kc]):=⟨heap_alloc_new w _,bstart w _⟩
   go_enter Tryz.func69,Tryz.ntmps69
   go_wp2_with fail
   refine (hhd _).mono ?_
   rintro e w1 ⟨rfl,hB⟩
   have H1:=hid_of (H0.out.called hB)
   clear hB H0
   have l0:=block_lt H1.out.1
   obtain⟨a7,a8,a9,a10,a11⟩:=zqg H1.out.1
   go_wp2_with fail
   clear l0 a7 a8 a9 a10 a11
   refine (specRaster rw' rh rc rd sa sn sc S _ (HS.out.called H1.out.2) hs').mono ?_
   rintro e w2 ⟨b,rfl,hb,hB⟩
   have H2:=hid_of (H1.out.called hB)
   obtain rfl:=flag_true hb HB0.out
   clear hB hb H1
   have l0:=block_lt H2.out.1
   obtain⟨a0,a1,a2,a3,a4,a5,a6,a7,a8,a9,a10,a11,a12⟩:=zqc H2.out.1
   go_wp2_with fail
   clear l0 a0 a1 a2 a3 a4 a5 a6 a7 a8 a9 a10 a11 a12
   refine (specClr hw hh hc' tn d lace ca cn cc C _ (HC.out.called H2.out.2) hc2 hd16).mono ?_
   rintro e w3 ⟨b,rfl,hb,hB⟩
   have H3:=hid_of (H2.out.called hB)
   obtain rfl:=flag_true hb HC0.out
   clear hB hb H2
   have l0:=block_lt H3.out.1
   obtain⟨a0,a1,a2,a3,a4,a5,a6,a7,a8,a9,a10,a11,a12⟩:=zqc H3.out.1
   go_wp2_with fail
   clear l0 a0 a1 a2 a3 a4 a5 a6 a7 a8 a9 a10 a11 a12
   refine (specKept ka kn kc K _ (HK.out.called H3.out.2) hk' HM.out).mono ?_
   rintro e w4 ⟨b,rfl,hb,rfl⟩
   obtain rfl:=flag_true hb HD.out
   clear hb
   have l0:=block_lt H3.out.1
   obtain⟨a0,a1,a2,a3,a4,a5,a6,a7,a8,a9,a10,a11,a12⟩:=zqc H3.out.1
   go_wp2_with fail
   go_ret
   exact HN.out _ H3.out.2
 subst h3
 by_cases hT0:TableR T tn
 case neg=>
  have HN:=hid_of (HNo.out fun h=>hT0 (by have:=(HR.out.mp h).2.1; unfold FitsR at this; rw [if_pos rfl] at this; exact this.1))
  have HQ:=hid_of hT0
  clear HNo HYes HR hT0
  have H0:Hid (PBox w (w.alloc (.cells #[.int .i64 hw,.int .i64 hh,.int .i64 (d:Int),.int .i64 3,.bool lace,.slice ta tn tc,.slice ca cn cc,.int .i64 rw',.int .i64 rh,.int .i64 rc,.int .i64 rd,.slice sa sn sc,.slice ka kn kc] 37)) #[.int .i64 hw,.int .i64 hh,.int .i64 (d:Int),.int .i64 3,.bool lace,.slice ta tn tc,.slice ca cn cc,.int .i64 rw',.int .i64 rh,.int .i64 rc,.int .i64 rd,.slice sa sn sc,.slice ka kn kc]):=⟨heap_alloc_new w _,bstart w _⟩
  go_enter Tryz.func69,Tryz.ntmps69
  go_wp2_with fail
  refine (hhd _).mono ?_
  rintro e w1 ⟨rfl,hB⟩
  have H1:=hid_of (H0.out.called hB)
  clear hB H0
  have l0:=block_lt H1.out.1
  obtain⟨a7,a8,a9,a10,a11⟩:=zqg H1.out.1
  go_wp2_with fail
  clear l0 a7 a8 a9 a10 a11
  refine (specRaster rw' rh rc rd sa sn sc S _ (HS.out.called H1.out.2) hs').mono ?_
  rintro e w2 ⟨b,rfl,hb,hB⟩
  have H2:=hid_of (H1.out.called hB)
  obtain rfl:=flag_true hb HB0.out
  clear hB hb H1
  have l0:=block_lt H2.out.1
  obtain⟨a0,a1,a2,a3,a4,a5,a6,a7,a8,a9,a10,a11,a12⟩:=zqc H2.out.1
  go_wp2_with fail
  clear l0 a0 a1 a2 a3 a4 a5 a6 a7 a8 a9 a10 a11 a12
  refine (specClr hw hh 3 tn d lace ca cn cc C _ (HC.out.called H2.out.2) hc2 hd16).mono ?_
  rintro e w3 ⟨b,rfl,hb,hB⟩
  have H3:=hid_of (H2.out.called hB)
  obtain rfl:=flag_true hb HC0.out
  clear hB hb H2
  have l0:=block_lt H3.out.1
  obtain⟨a0,a1,a2,a3,a4,a5,a6,a7,a8,a9,a10,a11,a12⟩:=zqc H3.out.1
  go_wp2_with fail
  clear l0 a0 a1 a2 a3 a4 a5 a6 a7 a8 a9 a10 a11 a12
  refine (specKept ka kn kc K _ (HK.out.called H3.out.2) hk' HM.out).mono ?_
  rintro e w4 ⟨b,rfl,hb,rfl⟩
  obtain rfl:=flag_true hb HD.out
  clear hb
  have l0:=block_lt H3.out.1
  obtain⟨a0,a1,a2,a3,a4,a5,a6,a7,a8,a9,a10,a11,a12⟩:=zqc H3.out.1
  go_wp2_with fail
  clear l0 a0 a1 a2 a3 a4 a5 a6 a7 a8 a9 a10 a11 a12
  refine (specTableText ta tn tc T _ (HT.out.called H3.out.2) ht').mono ?_
  rintro e w5 ⟨hTb,hB⟩
  have H5:=hid_of (H3.out.called hB)
  clear hB H3
  obtain rfl:=(hTb.resolve_left fun h=>HQ.out h.1).2
  clear hTb
  have l0:=block_lt H5.out.1
  obtain⟨a0,a1,a2,a3,a4,a5,a6,a7,a8,a9,a10,a11,a12⟩:=zqc H5.out.1
  go_wp2_with fail
  go_quiet (fail)
  have HB2:=hid_of (bdraws H5.out.2 nq)
  go_wp2_with fail
  go_ret
  exact HN.out _ HB2.out
 have HT0:=hid_of hT0
 clear hT0
 have hpw:=fun W=>pow_any d W (by omega)
 obtain⟨P,hPe⟩:∃ P,P=p2 d:=⟨_,rfl⟩
 rw[← hPe] at hpw
 by_cases hU:(tn:Int)≤P
 case neg=>
  have HN:=hid_of (HNo.out fun h=>hU (by have:=(HR.out.mp h).2.1; unfold FitsR at this; rw [if_pos rfl] at this; rw [hPe]; exact this.2))
  have dU:decide (P < (tn:Int))=true:=decide_eq_true (by omega)
  clear HNo HYes HR hU hPe
  have H0:Hid (PBox w (w.alloc (.cells #[.int .i64 hw,.int .i64 hh,.int .i64 (d:Int),.int .i64 3,.bool lace,.slice ta tn tc,.slice ca cn cc,.int .i64 rw',.int .i64 rh,.int .i64 rc,.int .i64 rd,.slice sa sn sc,.slice ka kn kc] 37)) #[.int .i64 hw,.int .i64 hh,.int .i64 (d:Int),.int .i64 3,.bool lace,.slice ta tn tc,.slice ca cn cc,.int .i64 rw',.int .i64 rh,.int .i64 rc,.int .i64 rd,.slice sa sn sc,.slice ka kn kc]):=⟨heap_alloc_new w _,bstart w _⟩
  go_enter Tryz.func69,Tryz.ntmps69
  go_wp2_with fail
  refine (hhd _).mono ?_
  rintro e w1 ⟨rfl,hB⟩
  have H1:=hid_of (H0.out.called hB)
  clear hB H0
  have l0:=block_lt H1.out.1
  obtain⟨a7,a8,a9,a10,a11⟩:=zqg H1.out.1
  go_wp2_with fail
  clear l0 a7 a8 a9 a10 a11
  refine (specRaster rw' rh rc rd sa sn sc S _ (HS.out.called H1.out.2) hs').mono ?_
  rintro e w2 ⟨b,rfl,hb,hB⟩
  have H2:=hid_of (H1.out.called hB)
  obtain rfl:=flag_true hb HB0.out
  clear hB hb H1
  have l0:=block_lt H2.out.1
  obtain⟨a0,a1,a2,a3,a4,a5,a6,a7,a8,a9,a10,a11,a12⟩:=zqc H2.out.1
  go_wp2_with fail
  clear l0 a0 a1 a2 a3 a4 a5 a6 a7 a8 a9 a10 a11 a12
  refine (specClr hw hh 3 tn d lace ca cn cc C _ (HC.out.called H2.out.2) hc2 hd16).mono ?_
  rintro e w3 ⟨b,rfl,hb,hB⟩
  have H3:=hid_of (H2.out.called hB)
  obtain rfl:=flag_true hb HC0.out
  clear hB hb H2
  have l0:=block_lt H3.out.1
  obtain⟨a0,a1,a2,a3,a4,a5,a6,a7,a8,a9,a10,a11,a12⟩:=zqc H3.out.1
  go_wp2_with fail
  clear l0 a0 a1 a2 a3 a4 a5 a6 a7 a8 a9 a10 a11 a12
  refine (specKept ka kn kc K _ (HK.out.called H3.out.2) hk' HM.out).mono ?_
  rintro e w4 ⟨b,rfl,hb,rfl⟩
  obtain rfl:=flag_true hb HD.out
  clear hb
  have l0:=block_lt H3.out.1
  obtain⟨a0,a1,a2,a3,a4,a5,a6,a7,a8,a9,a10,a11,a12⟩:=zqc H3.out.1
  go_wp2_with fail
  clear l0 a0 a1 a2 a3 a4 a5 a6 a7 a8 a9 a10 a11 a12
  refine (specTableText ta tn tc T _ (HT.out.called H3.out.2) ht').mono ?_
  rintro e w5 ⟨hTb,hB⟩
  have H5:=hid_of (H3.out.called hB)
  clear hB H3
  obtain rfl:=(hTb.resolve_right fun h=>h.1 HT0.out).2
  clear hTb
  generalize tableT T tn=tt
  have l0:=block_lt H5.out.1
  obtain⟨a0,a1,a2,a3,a4,a5,a6,a7,a8,a9,a10,a11,a12⟩:=zqc H5.out.1
  go_wp2_with fail
  go_quiet ((go_at_call 29; exact Calls.quiet_of_same (hpw _)))
  have HB2:=hid_of (bdraws H5.out.2 nq)
  go_wp2_with fail
  go_ret
  exact HN.out _ HB2.out
 have dU:decide (P < (tn:Int))=false:=decide_eq_false (by omega)
 have HU:Hid (FitsR 3 (d:Int) tn T):=by
  show FitsR 3 (d:Int) tn T
  unfold FitsR
  rw[if_pos rfl]
  exact⟨HT0.out,by rw [Int.toNat_natCast,← hPe]; exact hU⟩
 clear hU hPe
 have H0:Hid (PBox w (w.alloc (.cells #[.int .i64 hw,.int .i64 hh,.int .i64 (d:Int),.int .i64 3,.bool lace,.slice ta tn tc,.slice ca cn cc,.int .i64 rw',.int .i64 rh,.int .i64 rc,.int .i64 rd,.slice sa sn sc,.slice ka kn kc] 37)) #[.int .i64 hw,.int .i64 hh,.int .i64 (d:Int),.int .i64 3,.bool lace,.slice ta tn tc,.slice ca cn cc,.int .i64 rw',.int .i64 rh,.int .i64 rc,.int .i64 rd,.slice sa sn sc,.slice ka kn kc]):=⟨heap_alloc_new w _,bstart w _⟩
 go_enter Tryz.func69,Tryz.ntmps69
 go_wp2_with fail
 refine (hhd _).mono ?_
 rintro e w1 ⟨rfl,hB⟩
 have H1:=hid_of (H0.out.called hB)
 clear hB H0
 have l0:=block_lt H1.out.1
 obtain⟨a7,a8,a9,a10,a11⟩:=zqg H1.out.1
 go_wp2_with fail
 clear l0 a7 a8 a9 a10 a11
 refine (specRaster rw' rh rc rd sa sn sc S _ (HS.out.called H1.out.2) hs').mono ?_
 rintro e w2 ⟨b,rfl,hb,hB⟩
 have H2:=hid_of (H1.out.called hB)
 obtain rfl:=flag_true hb HB0.out
 clear hB hb H1
 have l0:=block_lt H2.out.1
 obtain⟨a0,a1,a2,a3,a4,a5,a6,a7,a8,a9,a10,a11,a12⟩:=zqc H2.out.1
 go_wp2_with fail
 clear l0 a0 a1 a2 a3 a4 a5 a6 a7 a8 a9 a10 a11 a12
 refine (specClr hw hh 3 tn d lace ca cn cc C _ (HC.out.called H2.out.2) hc2 hd16).mono ?_
 rintro e w3 ⟨b,rfl,hb,hB⟩
 have H3:=hid_of (H2.out.called hB)
 obtain rfl:=flag_true hb HC0.out
 clear hB hb H2
 have l0:=block_lt H3.out.1
 obtain⟨a0,a1,a2,a3,a4,a5,a6,a7,a8,a9,a10,a11,a12⟩:=zqc H3.out.1
 go_wp2_with fail
 clear l0 a0 a1 a2 a3 a4 a5 a6 a7 a8 a9 a10 a11 a12
 refine (specKept ka kn kc K _ (HK.out.called H3.out.2) hk' HM.out).mono ?_
 rintro e w4 ⟨b,rfl,hb,rfl⟩
 obtain rfl:=flag_true hb HD.out
 clear hb
 have l0:=block_lt H3.out.1
 obtain⟨a0,a1,a2,a3,a4,a5,a6,a7,a8,a9,a10,a11,a12⟩:=zqc H3.out.1
 go_wp2_with fail
 clear l0 a0 a1 a2 a3 a4 a5 a6 a7 a8 a9 a10 a11 a12
 refine (specTableText ta tn tc T _ (HT.out.called H3.out.2) ht').mono ?_
 rintro e w5 ⟨hTb,hB⟩
 have H5:=hid_of (H3.out.called hB)
 clear hB H3
 obtain rfl:=(hTb.resolve_right fun h=>h.1 HT0.out).2
 clear hTb
 generalize tableT T tn=tt
 have l0:=block_lt H5.out.1
 obtain⟨a0,a1,a2,a3,a4,a5,a6,a7,a8,a9,a10,a11,a12⟩:=zqc H5.out.1
 go_wp2_with fail
 go_quiet ((go_at_call 29; exact Calls.quiet_of_same (hpw _)))
 clear l0 a0 a1 a2 a3 a4 a5 a6 a7 a8 a9 a10 a11 a12
 have H6:Hid (PBox w (w5.drewN nq) #[.int .i64 hw,.int .i64 hh,.int .i64 (d:Int),.int .i64 3,.bool lace,.slice ta tn tc,.slice ca cn cc,.int .i64 rw',.int .i64 rh,.int .i64 rc,.int .i64 rd,.slice sa sn sc,.slice ka kn kc]):=H5.out.called (bdraws (Below.refl _ _) nq)
 clear H5 HM HK HC HT hpw dU
 generalize w5.drewN nq=w6 at H6 ⊢
 go_wp2_with fail
 go_loopw [5] (fun i w'=>∃ j:Nat,j≤sn∧i=.int .i64 j∧Hid (InJ w w' #[.int .i64 hw,.int .i64 hh,.int .i64 (d:Int),.int .i64 3,.bool lace,.slice ta tn tc,.slice ca cn cc,.int .i64 rw',.int .i64 rh,.int .i64 rc,.int .i64 rd,.slice sa sn sc,.slice ka kn kc] tn S j)) (fun i _=>sn - (intOf i).toNat)
 case atStart=>exact⟨0,Nat.zero_le _,rfl,H6.out,fun i hi=>absurd hi (Nat.not_lt_zero i)⟩
 case round=>
  clear H6
  obtain⟨j,hj,rfl,hI⟩:=hrel
  have l0:=block_lt hI.out.1.1
  have a5:=(cell_of_block hI.out.1.1 5).trans rfl
  have a11:=(cell_of_block hI.out.1.1 11).trans rfl
  by_cases hlt:j < sn
  ·have HJ:Hid (S j < (tn:Int)→∀ W,PBox w W #[.int .i64 hw,.int .i64 hh,.int .i64 (d:Int),.int .i64 3,.bool lace,.slice ta tn tc,.slice ca cn cc,.int .i64 rw',.int .i64 rh,.int .i64 rc,.int .i64 rd,.slice sa sn sc,.slice ka kn kc]→InJ w W #[.int .i64 hw,.int .i64 hh,.int .i64 (d:Int),.int .i64 3,.bool lace,.slice ta tn tc,.slice ca cn cc,.int .i64 rw',.int .i64 rh,.int .i64 rc,.int .i64 rd,.slice sa sn sc,.slice ka kn kc] tn S (j+1)):=fun hv W hW=>⟨hW,fun i hi=>by
    by_cases e:i=j
    ·rw[e]; exact hv
    ·exact hI.out.2 i (by omega)⟩
   rcases HS.out.called hI.out.1.2 with h0 | ⟨g,off,rfl,hg,hc⟩
   ·omega
   ·have c0:=hc j hlt
    clear hc
    by_cases hv:S j < (tn:Int)
    ·have HJ:=hid_of (HJ.out hv)
     have dv:decide ((tn:Int)≤S j)=false:=decide_eq_false (by omega)
     generalize S j=z at c0 dv
     clear hv
     go_wp2_with fail
     go_quiet (fail)
     have HB2:=hid_of (HJ.out _ (hI.out.1.called (bdraws (Below.refl _ _) nq)))
     clear hI HJ
     go_wp2_with fail
     go_roundw
     case rel=>exact⟨j+1,by omega,by go_num,HB2⟩
     case measure=>simp [intOf]; omega
    ·have HN:=hid_of (HNo.out fun h=>hv ((HR.out.mp h).2.2.2.1 rfl j hlt))
     have dv:decide ((tn:Int)≤S j)=true:=decide_eq_true (by omega)
     generalize S j=z at c0 dv
     clear hv HJ
     go_wp2_with fail
     go_quiet (fail)
     have HB2:=hid_of (hI.out.1.called (bdraws (Below.refl _ _) nq)).2
     clear hI
     go_wp2_with fail
     go_ret
     exact HN.out _ HB2.out
  ·obtain rfl:j=sn:=by omega
   have HY:=hid_of (HYes.out (HR.out.mpr ⟨⟨HA.out,HB0.out,HE.out⟩,HU.out,HC0.out,fun _=>hI.out.2,HD.out⟩))
   go_wp2_with fail
   go_ret
   exact HY.out _ hI.out.1.2
end Go.Proofs.YtkpbfmdnjnohlaaGreat
