/-
  Texts of the proof, put together.
-/
import Derived.Test.YtkpbfmdnjnohlaaGreatRd19
import Derived.Test.YtkpbfmdnjnohlaaGreatRd39
import Derived.Test.YtkpbfmdnjnohlaaGreatRd42
import Derived.Test.YtkpbfmdnjnohlaaGreatRd48
namespace Go.Proofs.YtkpbfmdnjnohlaaGreat
open Go.RowKit Go.Joins HeadMath ChunkMath
set_option maxRecDepth 100000 in
set_option maxHeartbeats 6400000 in
theorem specSteps (p:Pic) (q:PicA) (b:Nat) (m:Pic) (w:World) (hb:b≤w.heap.size) (hL:PngSL w b p q) (hZ:PngSz p) (hR:RedR p m):
  Calls Tryz.prog 63 #[pngV p q] w (fun e w'=>∃ q',e=.returned (pngV m q')∧PngSL w' b m q'∧Below w.heap.size w w'):=by
 have c0:=fun W (h:PngSL W b p q)=>specLessDepth p q W h.lie hZ
 have M0:Hid (MoP w #[.int .i64 p.hw,.int .i64 p.hh,.int .i64 p.hd,.int .i64 p.hc,.bool p.lace,.slice q.ta p.tn q.tc,.slice q.ca p.cn q.cc,.int .i64 p.rw,.int .i64 p.rh,.int .i64 p.rc,.int .i64 p.rd,.slice q.sa p.sn q.sc,.slice q.ka p.kn q.kc] ((w.alloc (.cells #[.int .i64 p.hw,.int .i64 p.hh,.int .i64 p.hd,.int .i64 p.hc,.bool p.lace,.slice q.ta p.tn q.tc,.slice q.ca p.cn q.cc,.int .i64 p.rw,.int .i64 p.rh,.int .i64 p.rc,.int .i64 p.rd,.slice q.sa p.sn q.sc,.slice q.ka p.kn q.kc] 37)).alloc (.cells #[.int .i64 0,.int .i64 0,.int .i64 0,.int .i64 0,.bool false,.slice none 0 0,.slice none 0 0,.int .i64 0,.int .i64 0,.int .i64 0,.int .i64 0,.slice none 0 0,.slice none 0 0] 37))):=MoP.start w _ _ rfl
 have L0:=hid_of hL
 have HR:=hid_of hR
 have HZ:=hid_of hZ
 have HB:=hid_of hb
 clear hL hR hZ hb
 simp only [pngV] at c0 ⊢
 go_enter Tryz.func63,Tryz.ntmps63
 go_wp2_with fail
 refine (c0 _ (L0.out.called M0.out.2.2)).mono ?_
 intro e w1 h
 obtain⟨x0,y0,ok,rfl,hy,hn,hB⟩:=took (C:=DepC) (r:=depP) (Nat.le_trans HB.out M0.out.2.2.size) h
 clear h
 have HY:=hid_of hy
 have HN:=hid_of hn
 have M1:=hid_of (M0.out.called hB)
 have L1:=hid_of ((L0.out.called M0.out.2.2).called hB)
 clear hy hn hB M0 L0 c0
 go_upto_if 11 with fail
 have R0:Hid (RB w #[.int .i64 p.hw,.int .i64 p.hh,.int .i64 p.hd,.int .i64 p.hc,.bool p.lace,.slice q.ta p.tn q.tc,.slice q.ca p.cn q.cc,.int .i64 p.rw,.int .i64 p.rh,.int .i64 p.rc,.int .i64 p.rd,.slice q.sa p.sn q.sc,.slice q.ka p.kn q.kc] #[.int .i64 x0.hw,.int .i64 x0.hh,.int .i64 x0.hd,.int .i64 x0.hc,.bool x0.lace,.slice y0.ta x0.tn y0.tc,.slice y0.ca x0.cn y0.cc,.int .i64 x0.rw,.int .i64 x0.rh,.int .i64 x0.rc,.int .i64 x0.rd,.slice y0.sa x0.sn y0.sc,.slice y0.ka x0.kn y0.kc] w1.heap.size b ok p q x0 y0 (w1.alloc (.cells #[.int .i64 x0.hw,.int .i64 x0.hh,.int .i64 x0.hd,.int .i64 x0.hc,.bool x0.lace,.slice y0.ta x0.tn y0.tc,.slice y0.ca x0.cn y0.cc,.int .i64 x0.rw,.int .i64 x0.rh,.int .i64 x0.rc,.int .i64 x0.rd,.slice y0.sa x0.sn y0.sc,.slice y0.ka x0.kn y0.kc] 37))):=RB.new M1.out L1.out (fun h=>(HY.out h).2) _
 have HC:Hid (ok=true→DepC p∧x0=depP p):=fun h=>(HY.out h).1
 clear M1 L1 HY
 generalize w1.alloc (.cells #[.int .i64 x0.hw,.int .i64 x0.hh,.int .i64 x0.hd,.int .i64 x0.hc,.bool x0.lace,.slice y0.ta x0.tn y0.tc,.slice y0.ca x0.cn y0.cc,.int .i64 x0.rw,.int .i64 x0.rh,.int .i64 x0.rc,.int .i64 x0.rd,.slice y0.sa x0.sn y0.sc,.slice y0.ka x0.kn y0.kc] 37)=u at R0 ⊢
 generalize w1.heap.size=Y at R0 ⊢
 clear w1
 go_cut [] from 12 (fun wx=>∃ p1 q1,RB w #[.int .i64 p1.hw,.int .i64 p1.hh,.int .i64 p1.hd,.int .i64 p1.hc,.bool p1.lace,.slice q1.ta p1.tn q1.tc,.slice q1.ca p1.cn q1.cc,.int .i64 p1.rw,.int .i64 p1.rh,.int .i64 p1.rc,.int .i64 p1.rd,.slice q1.sa p1.sn q1.sc,.slice q1.ka p1.kn q1.kc] #[.int .i64 x0.hw,.int .i64 x0.hh,.int .i64 x0.hd,.int .i64 x0.hc,.bool x0.lace,.slice y0.ta x0.tn y0.tc,.slice y0.ca x0.cn y0.cc,.int .i64 x0.rw,.int .i64 x0.rh,.int .i64 x0.rc,.int .i64 x0.rd,.slice y0.sa x0.sn y0.sc,.slice y0.ka x0.kn y0.kc] Y b false p1 q1 x0 y0 wx∧Stp DepC depP p p1∧PngSz p1)
 case first=>
  cases ok
  ·have HN2:=HN.out (by simp)
   clear HN HC
   go_wp2_with fail
   go_meet
   case rel=>exact⟨p,q,R0.out.drop,.inr ⟨HN2,rfl⟩,HZ.out⟩
  ·have HC2:=hid_of (HC.out (by simp))
   clear HN HC
   have T1:=hid_of ((((((((((((((R0.out.take).arg 0 (.int .i64 x0.hw)).arg 1 (.int .i64 x0.hh)).arg 2 (.int .i64 x0.hd)).arg 3 (.int .i64 x0.hc)).arg 4 (.bool x0.lace)).arg 5 (.slice y0.ta x0.tn y0.tc)).arg 6 (.slice y0.ca x0.cn y0.cc)).arg 7 (.int .i64 x0.rw)).arg 8 (.int .i64 x0.rh)).arg 9 (.int .i64 x0.rc)).arg 10 (.int .i64 x0.rd)).arg 11 (.slice y0.sa x0.sn y0.sc)).arg 12 (.slice y0.ka x0.kn y0.kc))
   simp only [zsa,zsb,zsc] at T1
   have lb:=block_lt R0.out.y
   obtain⟨b0,b1,b2,b3,b4,b5,b6,b7,b8,b9,b10,b11,b12⟩:=zqc R0.out.y
   have a0:=block_lt R0.out.m.1
   have af:=unfrozen_of_block R0.out.m.1
   obtain⟨a1,a2,a3,a4,a5,a6,a7,a8,a9,a10,a11,a12,a13⟩:=zqc R0.out.m.1
   go_wp2_with fail
   go_meet
   case rel=>exact⟨x0,y0,T1.out,.inl HC2.out,(by have h:=HC2.out.1; rw [HC2.out.2]; exact half_sz HZ.out _ _)⟩
 case rest=>
  obtain⟨p1,q1,hR,hS,hz⟩:=hcut
  have R1:=hid_of hR
  have Z1:=hid_of hz
  have HR1:Hid (MidR p1 m):=by
   obtain⟨a,h1,h2⟩:=HR.out
   obtain rfl:=h1.fn hS
   exact h2
  clear hR hS hz HR HZ HN HC R0
  have c1:=specCov p1 q1 wc R1.out.l.lie Z1.out
  simp only [pngV] at c1
  have a0:=block_lt R1.out.m.1
  obtain⟨a1,a2,a3,a4,a5,a6,a7,a8,a9,a10,a11,a12,a13⟩:=zqc R1.out.m.1
  go_wp2_with fail
  clear a0 a1 a2 a3 a4 a5 a6 a7 a8 a9 a10 a11 a12 a13
  refine c1.mono ?_
  intro e v1 h
  obtain⟨x1,y1,ok,rfl,hy,hn,hB⟩:=took (C:=CovC) (r:=covP) (b:=b) (Nat.le_trans HB.out R1.out.m.2.2.size) h
  have HN:=hid_of hn
  have V0:Hid (RB w #[.int .i64 p1.hw,.int .i64 p1.hh,.int .i64 p1.hd,.int .i64 p1.hc,.bool p1.lace,.slice q1.ta p1.tn q1.tc,.slice q1.ca p1.cn q1.cc,.int .i64 p1.rw,.int .i64 p1.rh,.int .i64 p1.rc,.int .i64 p1.rd,.slice q1.sa p1.sn q1.sc,.slice q1.ka p1.kn q1.kc] #[.int .i64 x0.hw,.int .i64 x0.hh,.int .i64 x0.hd,.int .i64 x0.hc,.bool x0.lace,.slice y0.ta x0.tn y0.tc,.slice y0.ca x0.cn y0.cc,.int .i64 x0.rw,.int .i64 x0.rh,.int .i64 x0.rc,.int .i64 x0.rd,.slice y0.sa x0.sn y0.sc,.slice y0.ka x0.kn y0.kc] Y b ok p1 q1 x1 y1 v1):=(R1.out.called hB).other (fun h=>(hy h).2)
  have HC:Hid (ok=true→CovC p1∧x1=covP p1):=fun h=>(hy h).1
  clear h hy hn hB c1 R1
  have lb:=block_lt V0.out.y
  obtain⟨b0,b1,b2,b3,b4,b5,b6,b7,b8,b9,b10,b11,b12⟩:=zqc V0.out.y
  have bf:=unfrozen_of_block V0.out.y
  go_upto_if 18 with fail
  clear lb b0 b1 b2 b3 b4 b5 b6 b7 b8 b9 b10 b11 b12
  clear bf
  have V1:=hid_of (((((((((((((V0.out.set 0 (.int .i64 x1.hw)).set 1 (.int .i64 x1.hh)).set 2 (.int .i64 x1.hd)).set 3 (.int .i64 x1.hc)).set 4 (.bool x1.lace)).set 5 (.slice y1.ta x1.tn y1.tc)).set 6 (.slice y1.ca x1.cn y1.cc)).set 7 (.int .i64 x1.rw)).set 8 (.int .i64 x1.rh)).set 9 (.int .i64 x1.rc)).set 10 (.int .i64 x1.rd)).set 11 (.slice y1.sa x1.sn y1.sc)).set 12 (.slice y1.ka x1.kn y1.kc))
  simp only [zsa,zsb,zsc] at V1
  generalize ((((((((((((v1.setCell ⟨Y,0,none⟩ (.int .i64 x1.hw)).setCell ⟨Y,1,none⟩ (.int .i64 x1.hh)).setCell ⟨Y,2,none⟩ (.int .i64 x1.hd)).setCell ⟨Y,3,none⟩ (.int .i64 x1.hc)).setCell ⟨Y,4,none⟩ (.bool x1.lace)).setCell ⟨Y,5,none⟩ (.slice y1.ta x1.tn y1.tc)).setCell ⟨Y,6,none⟩ (.slice y1.ca x1.cn y1.cc)).setCell ⟨Y,7,none⟩ (.int .i64 x1.rw)).setCell ⟨Y,8,none⟩ (.int .i64 x1.rh)).setCell ⟨Y,9,none⟩ (.int .i64 x1.rc)).setCell ⟨Y,10,none⟩ (.int .i64 x1.rd)).setCell ⟨Y,11,none⟩ (.slice y1.sa x1.sn y1.sc)).setCell ⟨Y,12,none⟩ (.slice y1.ka x1.kn y1.kc)=u at V1 ⊢
  clear V0
  go_cut [] from 19 (fun wx=>∃ p2 q2,RB w #[.int .i64 p2.hw,.int .i64 p2.hh,.int .i64 p2.hd,.int .i64 p2.hc,.bool p2.lace,.slice q2.ta p2.tn q2.tc,.slice q2.ca p2.cn q2.cc,.int .i64 p2.rw,.int .i64 p2.rh,.int .i64 p2.rc,.int .i64 p2.rd,.slice q2.sa p2.sn q2.sc,.slice q2.ka p2.kn q2.kc] #[.int .i64 x1.hw,.int .i64 x1.hh,.int .i64 x1.hd,.int .i64 x1.hc,.bool x1.lace,.slice y1.ta x1.tn y1.tc,.slice y1.ca x1.cn y1.cc,.int .i64 x1.rw,.int .i64 x1.rh,.int .i64 x1.rc,.int .i64 x1.rd,.slice y1.sa x1.sn y1.sc,.slice y1.ka x1.kn y1.kc] Y b false p2 q2 x1 y1 wx∧Stp CovC covP p1 p2∧PngSz p2)
  case first=>
   cases ok
   ·have HN2:=HN.out (by simp)
    clear HN HC
    go_wp2_with fail
    go_meet
    case rel=>exact⟨p1,q1,V1.out.drop,.inr ⟨HN2,rfl⟩,Z1.out⟩
   ·have HC2:=hid_of (HC.out (by simp))
    clear HN HC
    have T1:=hid_of ((((((((((((((V1.out.take).arg 0 (.int .i64 x1.hw)).arg 1 (.int .i64 x1.hh)).arg 2 (.int .i64 x1.hd)).arg 3 (.int .i64 x1.hc)).arg 4 (.bool x1.lace)).arg 5 (.slice y1.ta x1.tn y1.tc)).arg 6 (.slice y1.ca x1.cn y1.cc)).arg 7 (.int .i64 x1.rw)).arg 8 (.int .i64 x1.rh)).arg 9 (.int .i64 x1.rc)).arg 10 (.int .i64 x1.rd)).arg 11 (.slice y1.sa x1.sn y1.sc)).arg 12 (.slice y1.ka x1.kn y1.kc))
    simp only [zsa,zsb,zsc] at T1
    have lb:=block_lt V1.out.y
    obtain⟨b0,b1,b2,b3,b4,b5,b6,b7,b8,b9,b10,b11,b12⟩:=zqc V1.out.y
    have a0:=block_lt V1.out.m.1
    have af:=unfrozen_of_block V1.out.m.1
    obtain⟨a1,a2,a3,a4,a5,a6,a7,a8,a9,a10,a11,a12,a13⟩:=zqc V1.out.m.1
    go_wp2_with fail
    go_meet
    case rel=>exact⟨x1,y1,T1.out,.inl HC2.out,(by have h:=HC2.out.1; rw [HC2.out.2]; exact cov_sz Z1.out h)⟩
  obtain⟨p2,q2,hR,hS,hz⟩:=hcut
  have R2:=hid_of hR
  have Z2:=hid_of hz
  have HR2:Hid (LateR p2 m):=by
   obtain⟨a,h1,h2⟩:=HR1.out
   obtain rfl:=h1.fn hS
   exact h2
  clear hR hS hz HR1 Z1 HN HC V1
  have c1:=specCol p2 q2 wc R2.out.l.lie Z2.out
  simp only [pngV] at c1
  have a0:=block_lt R2.out.m.1
  obtain⟨a1,a2,a3,a4,a5,a6,a7,a8,a9,a10,a11,a12,a13⟩:=zqc R2.out.m.1
  go_wp2_with fail
  clear a0 a1 a2 a3 a4 a5 a6 a7 a8 a9 a10 a11 a12 a13
  refine c1.mono ?_
  intro e v2 h
  obtain⟨x2,y2,ok,rfl,hy,hn,hB⟩:=took (C:=ColC) (r:=colP) (b:=b) (Nat.le_trans HB.out R2.out.m.2.2.size) h
  have HN:=hid_of hn
  have V0:Hid (RB w #[.int .i64 p2.hw,.int .i64 p2.hh,.int .i64 p2.hd,.int .i64 p2.hc,.bool p2.lace,.slice q2.ta p2.tn q2.tc,.slice q2.ca p2.cn q2.cc,.int .i64 p2.rw,.int .i64 p2.rh,.int .i64 p2.rc,.int .i64 p2.rd,.slice q2.sa p2.sn q2.sc,.slice q2.ka p2.kn q2.kc] #[.int .i64 x1.hw,.int .i64 x1.hh,.int .i64 x1.hd,.int .i64 x1.hc,.bool x1.lace,.slice y1.ta x1.tn y1.tc,.slice y1.ca x1.cn y1.cc,.int .i64 x1.rw,.int .i64 x1.rh,.int .i64 x1.rc,.int .i64 x1.rd,.slice y1.sa x1.sn y1.sc,.slice y1.ka x1.kn y1.kc] Y b ok p2 q2 x2 y2 v2):=(R2.out.called hB).other (fun h=>(hy h).2)
  have HC:Hid (ok=true→ColC p2∧x2=colP p2):=fun h=>(hy h).1
  clear h hy hn hB c1 R2
  have lb:=block_lt V0.out.y
  obtain⟨b0,b1,b2,b3,b4,b5,b6,b7,b8,b9,b10,b11,b12⟩:=zqc V0.out.y
  have bf:=unfrozen_of_block V0.out.y
  go_upto_if 25 with fail
  clear lb b0 b1 b2 b3 b4 b5 b6 b7 b8 b9 b10 b11 b12
  clear bf
  have V1:=hid_of (((((((((((((V0.out.set 0 (.int .i64 x2.hw)).set 1 (.int .i64 x2.hh)).set 2 (.int .i64 x2.hd)).set 3 (.int .i64 x2.hc)).set 4 (.bool x2.lace)).set 5 (.slice y2.ta x2.tn y2.tc)).set 6 (.slice y2.ca x2.cn y2.cc)).set 7 (.int .i64 x2.rw)).set 8 (.int .i64 x2.rh)).set 9 (.int .i64 x2.rc)).set 10 (.int .i64 x2.rd)).set 11 (.slice y2.sa x2.sn y2.sc)).set 12 (.slice y2.ka x2.kn y2.kc))
  simp only [zsa,zsb,zsc] at V1
  generalize ((((((((((((v2.setCell ⟨Y,0,none⟩ (.int .i64 x2.hw)).setCell ⟨Y,1,none⟩ (.int .i64 x2.hh)).setCell ⟨Y,2,none⟩ (.int .i64 x2.hd)).setCell ⟨Y,3,none⟩ (.int .i64 x2.hc)).setCell ⟨Y,4,none⟩ (.bool x2.lace)).setCell ⟨Y,5,none⟩ (.slice y2.ta x2.tn y2.tc)).setCell ⟨Y,6,none⟩ (.slice y2.ca x2.cn y2.cc)).setCell ⟨Y,7,none⟩ (.int .i64 x2.rw)).setCell ⟨Y,8,none⟩ (.int .i64 x2.rh)).setCell ⟨Y,9,none⟩ (.int .i64 x2.rc)).setCell ⟨Y,10,none⟩ (.int .i64 x2.rd)).setCell ⟨Y,11,none⟩ (.slice y2.sa x2.sn y2.sc)).setCell ⟨Y,12,none⟩ (.slice y2.ka x2.kn y2.kc)=u at V1 ⊢
  clear V0
  go_cut [] from 26 (fun wx=>∃ p3 q3,RB w #[.int .i64 p3.hw,.int .i64 p3.hh,.int .i64 p3.hd,.int .i64 p3.hc,.bool p3.lace,.slice q3.ta p3.tn q3.tc,.slice q3.ca p3.cn q3.cc,.int .i64 p3.rw,.int .i64 p3.rh,.int .i64 p3.rc,.int .i64 p3.rd,.slice q3.sa p3.sn q3.sc,.slice q3.ka p3.kn q3.kc] #[.int .i64 x2.hw,.int .i64 x2.hh,.int .i64 x2.hd,.int .i64 x2.hc,.bool x2.lace,.slice y2.ta x2.tn y2.tc,.slice y2.ca x2.cn y2.cc,.int .i64 x2.rw,.int .i64 x2.rh,.int .i64 x2.rc,.int .i64 x2.rd,.slice y2.sa x2.sn y2.sc,.slice y2.ka x2.kn y2.kc] Y b false p3 q3 x2 y2 wx∧Stp ColC colP p2 p3∧PngSz p3)
  case first=>
   cases ok
   ·have HN2:=HN.out (by simp)
    clear HN HC
    go_wp2_with fail
    go_meet
    case rel=>exact⟨p2,q2,V1.out.drop,.inr ⟨HN2,rfl⟩,Z2.out⟩
   ·have HC2:=hid_of (HC.out (by simp))
    clear HN HC
    have T1:=hid_of ((((((((((((((V1.out.take).arg 0 (.int .i64 x2.hw)).arg 1 (.int .i64 x2.hh)).arg 2 (.int .i64 x2.hd)).arg 3 (.int .i64 x2.hc)).arg 4 (.bool x2.lace)).arg 5 (.slice y2.ta x2.tn y2.tc)).arg 6 (.slice y2.ca x2.cn y2.cc)).arg 7 (.int .i64 x2.rw)).arg 8 (.int .i64 x2.rh)).arg 9 (.int .i64 x2.rc)).arg 10 (.int .i64 x2.rd)).arg 11 (.slice y2.sa x2.sn y2.sc)).arg 12 (.slice y2.ka x2.kn y2.kc))
    simp only [zsa,zsb,zsc] at T1
    have lb:=block_lt V1.out.y
    obtain⟨b0,b1,b2,b3,b4,b5,b6,b7,b8,b9,b10,b11,b12⟩:=zqc V1.out.y
    have a0:=block_lt V1.out.m.1
    have af:=unfrozen_of_block V1.out.m.1
    obtain⟨a1,a2,a3,a4,a5,a6,a7,a8,a9,a10,a11,a12,a13⟩:=zqc V1.out.m.1
    go_wp2_with fail
    go_meet
    case rel=>exact⟨x2,y2,T1.out,.inl HC2.out,(by have h:=HC2.out.1; rw [HC2.out.2]; exact colP_sz h Z2.out)⟩
  obtain⟨p3,q3,hR,hS,hz⟩:=hcut
  have R3:=hid_of hR
  have Z3:=hid_of hz
  have HR3:Hid (∃ a,Stp TblC tblP p3 a∧Gray3 a m):=by
   obtain⟨a,b,h1,h2⟩:=HR2.out
   obtain rfl:=h1.fn hS
   exact⟨b,h2⟩
  clear hR hS hz HR2 Z2 HN HC V1
  have c1:=specTblAll p3 q3 wc R3.out.l.lie Z3.out
  simp only [pngV] at c1
  have a0:=block_lt R3.out.m.1
  obtain⟨a1,a2,a3,a4,a5,a6,a7,a8,a9,a10,a11,a12,a13⟩:=zqc R3.out.m.1
  go_wp2_with fail
  clear a0 a1 a2 a3 a4 a5 a6 a7 a8 a9 a10 a11 a12 a13
  refine c1.mono ?_
  intro e v3 h
  obtain⟨x3,y3,ok,rfl,hy,hn,hB⟩:=took (C:=TblC) (r:=tblP) (b:=b) (Nat.le_trans HB.out R3.out.m.2.2.size) h
  have HN:=hid_of hn
  have V0:Hid (RB w #[.int .i64 p3.hw,.int .i64 p3.hh,.int .i64 p3.hd,.int .i64 p3.hc,.bool p3.lace,.slice q3.ta p3.tn q3.tc,.slice q3.ca p3.cn q3.cc,.int .i64 p3.rw,.int .i64 p3.rh,.int .i64 p3.rc,.int .i64 p3.rd,.slice q3.sa p3.sn q3.sc,.slice q3.ka p3.kn q3.kc] #[.int .i64 x2.hw,.int .i64 x2.hh,.int .i64 x2.hd,.int .i64 x2.hc,.bool x2.lace,.slice y2.ta x2.tn y2.tc,.slice y2.ca x2.cn y2.cc,.int .i64 x2.rw,.int .i64 x2.rh,.int .i64 x2.rc,.int .i64 x2.rd,.slice y2.sa x2.sn y2.sc,.slice y2.ka x2.kn y2.kc] Y b ok p3 q3 x3 y3 v3):=(R3.out.called hB).other (fun h=>(hy h).2)
  have HC:Hid (ok=true→TblC p3∧x3=tblP p3):=fun h=>(hy h).1
  clear h hy hn hB c1 R3
  have lb:=block_lt V0.out.y
  obtain⟨b0,b1,b2,b3,b4,b5,b6,b7,b8,b9,b10,b11,b12⟩:=zqc V0.out.y
  have bf:=unfrozen_of_block V0.out.y
  go_upto_if 32 with fail
  clear lb b0 b1 b2 b3 b4 b5 b6 b7 b8 b9 b10 b11 b12
  clear bf
  have V1:=hid_of (((((((((((((V0.out.set 0 (.int .i64 x3.hw)).set 1 (.int .i64 x3.hh)).set 2 (.int .i64 x3.hd)).set 3 (.int .i64 x3.hc)).set 4 (.bool x3.lace)).set 5 (.slice y3.ta x3.tn y3.tc)).set 6 (.slice y3.ca x3.cn y3.cc)).set 7 (.int .i64 x3.rw)).set 8 (.int .i64 x3.rh)).set 9 (.int .i64 x3.rc)).set 10 (.int .i64 x3.rd)).set 11 (.slice y3.sa x3.sn y3.sc)).set 12 (.slice y3.ka x3.kn y3.kc))
  simp only [zsa,zsb,zsc] at V1
  generalize ((((((((((((v3.setCell ⟨Y,0,none⟩ (.int .i64 x3.hw)).setCell ⟨Y,1,none⟩ (.int .i64 x3.hh)).setCell ⟨Y,2,none⟩ (.int .i64 x3.hd)).setCell ⟨Y,3,none⟩ (.int .i64 x3.hc)).setCell ⟨Y,4,none⟩ (.bool x3.lace)).setCell ⟨Y,5,none⟩ (.slice y3.ta x3.tn y3.tc)).setCell ⟨Y,6,none⟩ (.slice y3.ca x3.cn y3.cc)).setCell ⟨Y,7,none⟩ (.int .i64 x3.rw)).setCell ⟨Y,8,none⟩ (.int .i64 x3.rh)).setCell ⟨Y,9,none⟩ (.int .i64 x3.rc)).setCell ⟨Y,10,none⟩ (.int .i64 x3.rd)).setCell ⟨Y,11,none⟩ (.slice y3.sa x3.sn y3.sc)).setCell ⟨Y,12,none⟩ (.slice y3.ka x3.kn y3.kc)=u at V1 ⊢
  clear V0
  go_cut [] from 33 (fun wx=>∃ p4 q4,RB w #[.int .i64 p4.hw,.int .i64 p4.hh,.int .i64 p4.hd,.int .i64 p4.hc,.bool p4.lace,.slice q4.ta p4.tn q4.tc,.slice q4.ca p4.cn q4.cc,.int .i64 p4.rw,.int .i64 p4.rh,.int .i64 p4.rc,.int .i64 p4.rd,.slice q4.sa p4.sn q4.sc,.slice q4.ka p4.kn q4.kc] #[.int .i64 x3.hw,.int .i64 x3.hh,.int .i64 x3.hd,.int .i64 x3.hc,.bool x3.lace,.slice y3.ta x3.tn y3.tc,.slice y3.ca x3.cn y3.cc,.int .i64 x3.rw,.int .i64 x3.rh,.int .i64 x3.rc,.int .i64 x3.rd,.slice y3.sa x3.sn y3.sc,.slice y3.ka x3.kn y3.kc] Y b false p4 q4 x3 y3 wx∧Stp TblC tblP p3 p4∧PngSz p4)
  case first=>
   cases ok
   ·have HN2:=HN.out (by simp)
    clear HN HC
    go_wp2_with fail
    go_meet
    case rel=>exact⟨p3,q3,V1.out.drop,.inr ⟨HN2,rfl⟩,Z3.out⟩
   ·have HC2:=hid_of (HC.out (by simp))
    clear HN HC
    have T1:=hid_of ((((((((((((((V1.out.take).arg 0 (.int .i64 x3.hw)).arg 1 (.int .i64 x3.hh)).arg 2 (.int .i64 x3.hd)).arg 3 (.int .i64 x3.hc)).arg 4 (.bool x3.lace)).arg 5 (.slice y3.ta x3.tn y3.tc)).arg 6 (.slice y3.ca x3.cn y3.cc)).arg 7 (.int .i64 x3.rw)).arg 8 (.int .i64 x3.rh)).arg 9 (.int .i64 x3.rc)).arg 10 (.int .i64 x3.rd)).arg 11 (.slice y3.sa x3.sn y3.sc)).arg 12 (.slice y3.ka x3.kn y3.kc))
    simp only [zsa,zsb,zsc] at T1
    have lb:=block_lt V1.out.y
    obtain⟨b0,b1,b2,b3,b4,b5,b6,b7,b8,b9,b10,b11,b12⟩:=zqc V1.out.y
    have a0:=block_lt V1.out.m.1
    have af:=unfrozen_of_block V1.out.m.1
    obtain⟨a1,a2,a3,a4,a5,a6,a7,a8,a9,a10,a11,a12,a13⟩:=zqc V1.out.m.1
    go_wp2_with fail
    go_meet
    case rel=>exact⟨x3,y3,T1.out,.inl HC2.out,(by have h:=HC2.out.1; rw [HC2.out.2]; exact tblP_sz h Z3.out)⟩
  obtain⟨p4,q4,hR,hS,hz⟩:=hcut
  have R4:=hid_of hR
  have Z4:=hid_of hz
  have HR4:Hid (Gray3 p4 m):=by
   obtain⟨a,h1,h2⟩:=HR3.out
   obtain rfl:=h1.fn hS
   exact h2
  clear hR hS hz HR3 Z3 HN HC V1
  have RL4:=HR4.out.left
  go_wp2_with fail
  go_loopw [4,5] (fun _ i wr=>∃ (j:Nat) (p5:Pic) (q5:PicA) (x5:Pic) (y5:PicA),j≤3∧i=.int .i64 j∧Hid (RB w #[.int .i64 p5.hw,.int .i64 p5.hh,.int .i64 p5.hd,.int .i64 p5.hc,.bool p5.lace,.slice q5.ta p5.tn q5.tc,.slice q5.ca p5.cn q5.cc,.int .i64 p5.rw,.int .i64 p5.rh,.int .i64 p5.rc,.int .i64 p5.rd,.slice q5.sa p5.sn q5.sc,.slice q5.ka p5.kn q5.kc] #[.int .i64 x5.hw,.int .i64 x5.hh,.int .i64 x5.hd,.int .i64 x5.hc,.bool x5.lace,.slice y5.ta x5.tn y5.tc,.slice y5.ca x5.cn y5.cc,.int .i64 x5.rw,.int .i64 x5.rh,.int .i64 x5.rc,.int .i64 x5.rd,.slice y5.sa x5.sn y5.sc,.slice y5.ka x5.kn y5.kc] Y b false p5 q5 x5 y5 wr∧RL (3 - j) p5 m∧PngSz p5)) (fun _ i _=>3 - (intOf i).toNat)
  case atStart=>exact⟨0,p4,q4,x3,y3,by omega,rfl,R4.out,RL4,Z4.out⟩
  case round=>
   clear R4 Z4 HR4 RL4
   obtain⟨j,p5,q5,x4,y4,hj,rfl,hI⟩:=hrel
   have R5:=hid_of hI.out.1
   have HL:=hid_of hI.out.2.1
   have Z5:=hid_of hI.out.2.2
   clear hI
   by_cases hlt:j < 3
   ·have c1:=specGray p5 q5 wr R5.out.l.lie Z5.out
    simp only [pngV] at c1
    have a0:=block_lt R5.out.m.1
    obtain⟨a1,a2,a3,a4,a5,a6,a7,a8,a9,a10,a11,a12,a13⟩:=zqc R5.out.m.1
    go_wp2_with fail
    clear a0 a1 a2 a3 a4 a5 a6 a7 a8 a9 a10 a11 a12 a13
    refine c1.mono ?_
    intro e v5 h
    obtain⟨x5,y5,ok,rfl,hy,hn,hB⟩:=took (C:=GrayC) (r:=grayP) (b:=b) (Nat.le_trans HB.out R5.out.m.2.2.size) h
    have HN:=hid_of hn
    have V0:Hid (RB w #[.int .i64 p5.hw,.int .i64 p5.hh,.int .i64 p5.hd,.int .i64 p5.hc,.bool p5.lace,.slice q5.ta p5.tn q5.tc,.slice q5.ca p5.cn q5.cc,.int .i64 p5.rw,.int .i64 p5.rh,.int .i64 p5.rc,.int .i64 p5.rd,.slice q5.sa p5.sn q5.sc,.slice q5.ka p5.kn q5.kc] #[.int .i64 x4.hw,.int .i64 x4.hh,.int .i64 x4.hd,.int .i64 x4.hc,.bool x4.lace,.slice y4.ta x4.tn y4.tc,.slice y4.ca x4.cn y4.cc,.int .i64 x4.rw,.int .i64 x4.rh,.int .i64 x4.rc,.int .i64 x4.rd,.slice y4.sa x4.sn y4.sc,.slice y4.ka x4.kn y4.kc] Y b ok p5 q5 x5 y5 v5):=(R5.out.called hB).other (fun h=>(hy h).2)
    have HC:Hid (ok=true→GrayC p5∧x5=grayP p5):=fun h=>(hy h).1
    clear h hy hn hB c1 R5
    have lb:=block_lt V0.out.y
    obtain⟨b0,b1,b2,b3,b4,b5,b6,b7,b8,b9,b10,b11,b12⟩:=zqc V0.out.y
    have bf:=unfrozen_of_block V0.out.y
    go_upto_if 43 with fail
    clear lb b0 b1 b2 b3 b4 b5 b6 b7 b8 b9 b10 b11 b12
    clear bf
    have V1:=hid_of (((((((((((((V0.out.set 0 (.int .i64 x5.hw)).set 1 (.int .i64 x5.hh)).set 2 (.int .i64 x5.hd)).set 3 (.int .i64 x5.hc)).set 4 (.bool x5.lace)).set 5 (.slice y5.ta x5.tn y5.tc)).set 6 (.slice y5.ca x5.cn y5.cc)).set 7 (.int .i64 x5.rw)).set 8 (.int .i64 x5.rh)).set 9 (.int .i64 x5.rc)).set 10 (.int .i64 x5.rd)).set 11 (.slice y5.sa x5.sn y5.sc)).set 12 (.slice y5.ka x5.kn y5.kc))
    simp only [zsa,zsb,zsc] at V1
    generalize ((((((((((((v5.setCell ⟨Y,0,none⟩ (.int .i64 x5.hw)).setCell ⟨Y,1,none⟩ (.int .i64 x5.hh)).setCell ⟨Y,2,none⟩ (.int .i64 x5.hd)).setCell ⟨Y,3,none⟩ (.int .i64 x5.hc)).setCell ⟨Y,4,none⟩ (.bool x5.lace)).setCell ⟨Y,5,none⟩ (.slice y5.ta x5.tn y5.tc)).setCell ⟨Y,6,none⟩ (.slice y5.ca x5.cn y5.cc)).setCell ⟨Y,7,none⟩ (.int .i64 x5.rw)).setCell ⟨Y,8,none⟩ (.int .i64 x5.rh)).setCell ⟨Y,9,none⟩ (.int .i64 x5.rc)).setCell ⟨Y,10,none⟩ (.int .i64 x5.rd)).setCell ⟨Y,11,none⟩ (.slice y5.sa x5.sn y5.sc)).setCell ⟨Y,12,none⟩ (.slice y5.ka x5.kn y5.kc)=u at V1 ⊢
    clear V0
    cases ok
    ·have HN2:=HN.out (by simp)
     clear HN HC
     go_wp2_with fail
     have S5:Stp GrayC grayP p5 p5:=.inr ⟨HN2,rfl⟩
     have L5:Hid (RL (3 - (j+1)) p5 m):=by
      have h:=HL.out
      rw[show 3 - j=3 - (j+1)+1 by omega] at h
      obtain⟨a,h1,h2⟩:=h
      obtain rfl:=h1.fn S5
      exact h2
     go_roundw
     case rel=>exact⟨j+1,p5,q5,x5,y5,by omega,by go_num,V1.out.drop,L5.out,Z5.out⟩
     case measure=>simp [intOf]; omega
    ·have HC2:=hid_of (HC.out (by simp))
     clear HN HC
     have T1:=hid_of ((((((((((((((V1.out.take).arg 0 (.int .i64 x5.hw)).arg 1 (.int .i64 x5.hh)).arg 2 (.int .i64 x5.hd)).arg 3 (.int .i64 x5.hc)).arg 4 (.bool x5.lace)).arg 5 (.slice y5.ta x5.tn y5.tc)).arg 6 (.slice y5.ca x5.cn y5.cc)).arg 7 (.int .i64 x5.rw)).arg 8 (.int .i64 x5.rh)).arg 9 (.int .i64 x5.rc)).arg 10 (.int .i64 x5.rd)).arg 11 (.slice y5.sa x5.sn y5.sc)).arg 12 (.slice y5.ka x5.kn y5.kc))
     simp only [zsa,zsb,zsc] at T1
     have lb:=block_lt V1.out.y
     obtain⟨b0,b1,b2,b3,b4,b5,b6,b7,b8,b9,b10,b11,b12⟩:=zqc V1.out.y
     have a0:=block_lt V1.out.m.1
     have af:=unfrozen_of_block V1.out.m.1
     obtain⟨a1,a2,a3,a4,a5,a6,a7,a8,a9,a10,a11,a12,a13⟩:=zqc V1.out.m.1
     go_wp2_with fail
     have S5:Stp GrayC grayP p5 x5:=.inl HC2.out
     have L5:Hid (RL (3 - (j+1)) x5 m):=by
      have h:=HL.out
      rw[show 3 - j=3 - (j+1)+1 by omega] at h
      obtain⟨a,h1,h2⟩:=h
      obtain rfl:=h1.fn S5
      exact h2
     go_roundw
     case rel=>exact⟨j+1,x5,y5,x5,y5,by omega,by go_num,T1.out,L5.out,(by have h:=HC2.out.1; rw [HC2.out.2]; exact half_sz Z5.out _ _)⟩
     case measure=>simp [intOf]; omega
   ·obtain rfl:j=3:=by omega
    have hm:m=p5:=HL.out
    subst hm
    have a0:=block_lt R5.out.m.1
    obtain⟨a1,a2,a3,a4,a5,a6,a7,a8,a9,a10,a11,a12,a13⟩:=zqc R5.out.m.1
    obtain⟨⟨z0,z1,z2,z3,z4,z5,z6,z7,z8,z9,z10,z11,z12,y0,y1,y2,y3,y4,y5,y6,y7,y8,y9,y10,y11,y12⟩,yf,yl⟩:=R5.out.m.cells
    go_wp2_with fail
    have E5:=hid_of (⟨R5.out.m,R5.out.l⟩:WQ w #[.int .i64 m.hw,.int .i64 m.hh,.int .i64 m.hd,.int .i64 m.hc,.bool m.lace,.slice q5.ta m.tn q5.tc,.slice q5.ca m.cn q5.cc,.int .i64 m.rw,.int .i64 m.rh,.int .i64 m.rc,.int .i64 m.rd,.slice q5.sa m.sn q5.sc,.slice q5.ka m.kn q5.kc] b m q5 wr).stored
    refine bodyPost_ret (v:=.agg #[.int .i64 m.hw,.int .i64 m.hh,.int .i64 m.hd,.int .i64 m.hc,.bool m.lace,.slice q5.ta m.tn q5.tc,.slice q5.ca m.cn q5.cc,.int .i64 m.rw,.int .i64 m.rh,.int .i64 m.rc,.int .i64 m.rd,.slice q5.sa m.sn q5.sc,.slice q5.ka m.kn q5.kc]) ?_ rfl ⟨q5,rfl,?_,?_⟩
    ·simp[results,Tryz.results63,go_sem, *]
    ·exact (E5.out _ _ _ _ _ _ _ _ _ _ _ _ _).1
    ·exact (E5.out _ _ _ _ _ _ _ _ _ _ _ _ _).2
end Go.Proofs.YtkpbfmdnjnohlaaGreat
