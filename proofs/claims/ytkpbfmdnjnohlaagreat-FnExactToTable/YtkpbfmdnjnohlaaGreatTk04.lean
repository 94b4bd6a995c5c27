/-
  Texts of the proof, put together.
-/
import Derived.Test.YtkpbfmdnjnohlaaGreatTk03
namespace Go.Proofs.YtkpbfmdnjnohlaaGreat
open Go.ChangeShapes Go.WideShapes Go.ChangeAt Go.RowKit Go.Joins Go.Deep Go.WideElems HeadMath ChunkMath
theorem array13 {α:Type} {cs:Array α} (h:cs.size=13):∃ c0 c1 c2 c3 c4 c5 c6 c7 c8 c9 c10 c11 c12,cs=#[c0,c1,c2,c3,c4,c5,c6,c7,c8,c9,c10,c11,c12]:=by
 obtain⟨l⟩:=cs
 match l,h with
 | [c0,c1,c2,c3,c4,c5,c6,c7,c8,c9,c10,c11,c12],_=>exact⟨c0,c1,c2,c3,c4,c5,c6,c7,c8,c9,c10,c11,c12,rfl⟩
set_option maxRecDepth 100000 in
set_option maxHeartbeats 1600000 in
theorem open_png {H:Type} {enc:TypeId×Value→H} {W:World} {r:Reach} {b0:Nat} {v:Value} {d:DataW H} {p:List MemPlace} (hv:Value.okWide Tryz.prog W r b0 30 v) (h:DataW.Trod enc Tryz.prog W 0 (fun _=>true) true 30 v d p):
  ∃ (P:Pic) (Q:PicA),v=pngV P Q∧PngIn W P Q∧P.tn≤maxLen∧P.cn≤maxLen∧P.sn≤maxLen∧P.kn≤maxLen∧(∀ i,i < P.kn→(P.K i).1.size≤maxLen∧(P.K i).2.size≤maxLen):=by
 have cI:Tryz.prog.cellsOf 3=1:=by kernel_rfl
 have cB:Tryz.prog.cellsOf 4=1:=by kernel_rfl
 have cH:Tryz.prog.cellsOf 23=5:=by kernel_rfl
 have cR:Tryz.prog.cellsOf 27=5:=by kernel_rfl
 have cT:Tryz.prog.cellsOf 24=1:=by kernel_rfl
 have cC:Tryz.prog.cellsOf 25=1:=by kernel_rfl
 have cK:Tryz.prog.cellsOf 28=1:=by kernel_rfl
 obtain⟨cs,rfl,hsz⟩:=okWide_struct Tryz.underlying30 hv
 obtain⟨u0,u1,u2,u3,u4,u5,u6,u7,u8,u9,u10,u11,u12,rfl⟩:=array13 (hsz.trans (by kernel_rfl))
 obtain⟨fuel,hf⟩:=h
 obtain⟨xs,n,_,_,_,hlen,hg⟩:=DataW.trod_struct Tryz.underlying30 hf
 match xs,hlen with
 | [y0,y1,y2,y3,y4],_=>
  have g0:=hg 0 _ rfl
  have g1:=hg 1 _ rfl
  have g2:=hg 2 _ rfl
  have g3:=hg 3 _ rfl
  have g4:=hg 4 _ rfl
  simp[Value.cells,cH,cR,cT,cC,cK] at g0 g1 g2 g3 g4
  clear hg hf hv
  obtain⟨zs,n0,_,_,_,hl0,hh⟩:=DataW.trod_struct Tryz.underlying23 g0
  obtain⟨rs,n3,_,_,_,hl3,hr⟩:=DataW.trod_struct Tryz.underlying27 g3
  match zs,hl0,rs,hl3 with
  | [z0,z1,z2,z3,z4],_,[r0,r1,r2,r3,r4],_=>
   have k0:=hh 0 _ rfl
   have k1:=hh 1 _ rfl
   have k2:=hh 2 _ rfl
   have k3:=hh 3 _ rfl
   have k4:=hh 4 _ rfl
   have m0:=hr 0 _ rfl
   have m1:=hr 1 _ rfl
   have m2:=hr 2 _ rfl
   have m3:=hr 3 _ rfl
   have m4:=hr 4 _ rfl
   simp[cI,cB,cC] at k0 k1 k2 k3 k4 m0 m1 m2 m3 m4
   clear hh hr g0 g3
   obtain⟨x0,e0,_,_⟩:=DataW.trod_int Tryz.underlying3 k0
   obtain⟨x1,e1,_,_⟩:=DataW.trod_int Tryz.underlying3 k1
   obtain⟨x2,e2,_,_⟩:=DataW.trod_int Tryz.underlying3 k2
   obtain⟨x3,e3,_,_⟩:=DataW.trod_int Tryz.underlying3 k3
   obtain⟨lc,e4,_⟩:=DataW.trod_bool Tryz.underlying4 k4
   obtain⟨a0,f0,_,_⟩:=DataW.trod_int Tryz.underlying3 m0
   obtain⟨a1,f1,_,_⟩:=DataW.trod_int Tryz.underlying3 m1
   obtain⟨a2,f2,_,_⟩:=DataW.trod_int Tryz.underlying3 m2
   obtain⟨a3,f3,_,_⟩:=DataW.trod_int Tryz.underlying3 m3
   simp at e0 e1 e2 e3 e4 f0 f1 f2 f3
   obtain⟨ta,tn,tc,rfl⟩:=slice_of_trod Tryz.underlying24 g1
   obtain⟨ca,cn,cc,rfl⟩:=slice_of_trod Tryz.underlying25 g2
   obtain⟨sa,sn,sc,rfl⟩:=slice_of_trod Tryz.underlying25 m4
   obtain⟨ka,kn,kc,rfl⟩:=slice_of_trod Tryz.underlying28 g4
   subst e0 e1 e2 e3 e4 f0 f1 f2 f3
   obtain⟨L,e,hT,_,hTm⟩:=open_colors g1
   obtain⟨M,e',hK,hKz,hKm⟩:=open_chunks g4
   obtain⟨zc,hC⟩:=row_of_trod g2
   obtain⟨zs,hS⟩:=row_of_trod m4
   obtain⟨hC1,hC2,_⟩:=came_of_row hC
   obtain⟨hS1,hS2,_⟩:=came_of_row hS
   refine⟨⟨x0,x1,x2,x3,lc,tn,_,cn,_,a0,a1,a2,a3,sn,_,kn,_⟩,⟨ta,tc,ca,cc,sa,sc,ka,kc⟩,rfl,⟨hT,hC1,hS1,hK,?_⟩,hTm,hC2,hS2,hKm,fun i hi=>?_⟩
   ·rcases hS with ⟨_,rfl,rfl,_⟩ | ⟨_,_,h1,h2,_⟩
    ·exact⟨Nat.le_refl _,Nat.zero_le _⟩
    ·exact⟨h1,h2⟩
   ·have hi':i < kn:=hi
    refine hKz _ ?_
    show M.getD i _∈M
    rw[List.getD_eq_getElem?_getD,List.getElem?_eq_getElem (by omega)]
    exact List.getElem_mem _
def SzPngPost (w:World) (p:Pic) (e:Ending) (w':World):Prop:=∃ z:Int,e=.returned (.int .i64 z)∧(z < 0∨(0≤z∧PngSz p))∧Below w.heap.size w w'
set_option maxRecDepth 100000 in
set_option maxHeartbeats 1600000 in
theorem szPng_any (p:Pic) (q:PicA) (w:World) (hP:PngIn w p q) (ht:p.tn≤maxLen) (hc:p.cn≤maxLen) (hs:p.sn≤maxLen) (hk:p.kn≤maxLen) (hm:∀ i,i < p.kn→(p.K i).1.size≤maxLen∧(p.K i).2.size≤maxLen):
  Calls Tryz.prog 8 #[pngV p q,.int .i64 1048576] w (SzPngPost w p):=by
 obtain⟨hw,hh,hd,hc',lace,tn,T,cn,C,rw',rh,rc,rd,sn,S,kn,K⟩:=p
 obtain⟨ta,tc,ca,cc,sa,sc,ka,kc⟩:=q
 have HK:=hid_of hP.k
 have HM:=hid_of hm
 have ht':tn≤maxLen:=ht
 have hc2:cn≤maxLen:=hc
 have hs':sn≤maxLen:=hs
 have hk':kn≤maxLen:=hk
 have e0:=fun W=>szRgbS_any ta tn tc 1048576 W (by unfold maxLen at ht'; omega) (by omega) (by omega)
 have HB0:Hid (Below w.heap.size w (w.alloc (.cells #[.int .i64 hw,.int .i64 hh,.int .i64 hd,.int .i64 hc',.bool lace,.slice ta tn tc,.slice ca cn cc,.int .i64 rw',.int .i64 rh,.int .i64 rc,.int .i64 rd,.slice sa sn sc,.slice ka kn kc] 30))):=bstart _ _
 clear hP hm ht hc hs hk
 show Calls Tryz.prog 8 #[.agg #[.int .i64 hw,.int .i64 hh,.int .i64 hd,.int .i64 hc',.bool lace,.slice ta tn tc,.slice ca cn cc,.int .i64 rw',.int .i64 rh,.int .i64 rc,.int .i64 rd,.slice sa sn sc,.slice ka kn kc],.int .i64 1048576] w _
 go_enter Tryz.func8,Tryz.ntmps8
 go_wp2_with fail
 refine (e0 _).mono ?_
 rintro e w1 ⟨rfl,rfl⟩
 clear e0
 by_cases h1:(tn:Int)≤1048576
 case neg=>
  rw[if_neg h1]
  clear h1
  go_wp2_with fail
  go_ret
  exact⟨-1,rfl,.inl (by omega),HB0.out⟩
 rw[if_pos h1]
 have d1:decide (1048576 - (tn:Int) < 0)=false:=decide_eq_false (by omega)
 have e1:=fun W=>szIntS_any ca cn cc (1048576 - (tn:Int)) W (by omega) (by omega) hc2
 go_wp2_with fail
 refine (e1 _).mono ?_
 rintro e w1 ⟨rfl,rfl⟩
 clear e1
 by_cases h2:(cn:Int)≤1048576 - (tn:Int)
 case neg=>
  rw[if_neg h2]
  clear h2
  go_wp2_with fail
  go_ret
  exact⟨-1,rfl,.inl (by omega),HB0.out⟩
 rw[if_pos h2]
 have d2:decide (1048576 - (tn:Int) - (cn:Int) < 0)=false:=decide_eq_false (by omega)
 have e2:=fun W=>szRaster_any rw' rh rc rd sa sn sc (1048576 - (tn:Int) - (cn:Int)) W (by omega) (by omega) hs'
 go_wp2_with fail
 refine (e2 _).mono ?_
 rintro e w2 ⟨rfl,hB⟩
 have HB2:=hid_of (bnext HB0.out hB)
 have q0:w2.heap[w.heap.size]?=some (.cells #[.int .i64 hw,.int .i64 hh,.int .i64 hd,.int .i64 hc',.bool lace,.slice ta tn tc,.slice ca cn cc,.int .i64 rw',.int .i64 rh,.int .i64 rc,.int .i64 rd,.slice sa sn sc,.slice ka kn kc] 30 (0,0)):=(hB.block _ (by simp)).trans (heap_alloc_new w _)
 have q12:w2.cell? ⟨w.heap.size,12,none⟩=some (.slice ka kn kc):=(cell_of_block q0 12).trans rfl
 have ql:=block_lt q0
 clear e2 hB q0
 by_cases h3:(sn:Int)≤1048576 - (tn:Int) - (cn:Int)
 case neg=>
  rw[if_neg h3]
  clear h3
  go_wp2_with fail
  go_ret
  exact⟨-1,rfl,.inl (by omega),HB2.out⟩
 rw[if_pos h3]
 have d3:decide (1048576 - (tn:Int) - (cn:Int) - (sn:Int) < 0)=false:=decide_eq_false (by omega)
 go_wp2_with fail
 refine (szChunkS_at (1048576 - (tn:Int) - (cn:Int) - (sn:Int)) (by omega) (by omega) ka kn kc K _ (HK.out.called HB2.out) (by unfold maxLen at hk'; omega) (fun i hi=>by have:=HM.out i hi; unfold maxLen at this; exact⟨by omega,by omega⟩)).mono ?_
 rintro e w3 ⟨z,rfl,hz,hB⟩
 have HB3:=hid_of (bnext HB2.out hB)
 rcases hz with rfl | ⟨z0,z1,z2,z3⟩
 ·clear hB
  go_wp2_with fail
  go_ret
  exact⟨-1,rfl,.inl (by omega),HB3.out⟩
 ·have dz:decide (z < 0)=false:=decide_eq_false (by omega)
  have HZ:=hid_of z3
  clear hB z3
  go_wp2_with fail
  go_ret
  refine⟨z,rfl,.inr ⟨z0,⟨?_,?_,?_,z2,HZ.out⟩⟩,HB3.out⟩
  ·show tn≤1048576
   omega
  ·show cn≤1048576
   omega
  ·show sn≤1048576
   omega
end Go.Proofs.YtkpbfmdnjnohlaaGreat
