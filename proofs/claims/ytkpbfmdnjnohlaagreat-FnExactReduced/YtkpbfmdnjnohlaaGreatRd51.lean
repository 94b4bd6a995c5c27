/-
  Texts of the proof, put together.
-/
import Derived.Test.YtkpbfmdnjnohlaaGreatRd39
import Derived.Test.YtkpbfmdnjnohlaaGreatRd42
import Derived.Test.YtkpbfmdnjnohlaaGreatRd48
import Derived.Deep.CutBlock
namespace Go.Proofs.YtkpbfmdnjnohlaaGreat
open Go.RowKit Go.Joins HeadMath ChunkMath
structure AB (w:World) (A:Array Value) (b:Nat) (p:Pic) (q:PicA) (u:World):Prop where
 f:u.heap[w.heap.size]?=some (.cells #[.func (.func 86) #[] #[],.func (.func 11) #[] #[],.func (.func 16) #[] #[],.func (.func 18) #[] #[],.func (.func 20) #[] #[]] 84 (0,0))
 y:BoxAt u (w.heap.size+1) A
 r:∃ Z,BoxAt u (w.heap.size+1+1) Z∧Z.size=13
 d:Below w.heap.size w u
 l:PngSL u b p q
section
variable {w u u':World} {A:Array Value} {b:Nat} {p:Pic} {q:PicA}
theorem AB.start (hL:PngSL w b p q) (A Z:Array Value) (hz:Z.size=13):AB w A b p q (((w.alloc (.cells #[.func (.func 86) #[] #[],.func (.func 11) #[] #[],.func (.func 16) #[] #[],.func (.func 18) #[] #[],.func (.func 20) #[] #[]] 84)).alloc (.cells A 37)).alloc (.cells Z 37)):=by
 have h1:Below w.heap.size w (((w.alloc (.cells #[.func (.func 86) #[] #[],.func (.func 11) #[] #[],.func (.func 16) #[] #[],.func (.func 18) #[] #[],.func (.func 20) #[] #[]] 84)).alloc (.cells A 37)).alloc (.cells Z 37)):=bal (bal (bstart w _) _) _
 refine⟨?_,?_,⟨Z,?_,hz⟩,h1,hL.called h1⟩
 ·show (((w.heap.push _).push _).push _)[w.heap.size]?=_
  rw[Array.getElem?_push,if_neg (by simp; omega),Array.getElem?_push,if_neg (by simp),Array.getElem?_push,if_pos (by simp)]
 ·show (((w.heap.push _).push _).push _)[w.heap.size+1]?=_
  rw[Array.getElem?_push,if_neg (by simp),Array.getElem?_push,if_pos (by simp)]
 ·show (((w.heap.push _).push _).push _)[w.heap.size+1+1]?=_
  rw[Array.getElem?_push,if_pos (by simp)]
theorem AB.called (h:AB w A b p q u) (hb:Below u.heap.size u u'):AB w A b p q u':=by
 obtain⟨Z,h2,hz⟩:=h.r
 exact⟨(hb.block _ (block_lt h.f)).trans h.f,h.y.called hb,⟨Z,h2.called hb,hz⟩,bnext h.d hb,h.l.called hb⟩
theorem AB.other {x:Pic} {y:PicA} (h:AB w A b p q u) (hl:PngSL u b x y):AB w A b x y u:=⟨h.f,h.y,h.r,h.d,hl⟩
theorem AB.arg (h:AB w A b p q u) (k:Nat) (v:Value):AB w (A.setIfInBounds k v) b p q (u.setCell ⟨w.heap.size+1,k,none⟩ v):=by
 obtain⟨Z,h2,hz⟩:=h.r
 refine⟨?_,h.y.put k v,⟨Z,?_,hz⟩,h.d.setCell (p:=⟨w.heap.size+1,k,none⟩) (by simp) v,PngSL.put (O:=A) h.l h.y k v⟩
 ·rw[Below.heap_setCell _ _ _ _ (by simp)]; exact h.f
 ·rw[BoxAt,Below.heap_setCell _ _ _ _ (by simp)]; exact h2
theorem AB.put (h:AB w A b p q u) (k:Nat) (v:Value):AB w A b p q (u.setCell ⟨w.heap.size+1+1,k,none⟩ v):=by
 obtain⟨Z,h2,hz⟩:=h.r
 refine⟨?_,?_,⟨Z.setIfInBounds k v,h2.put k v,by simpa using hz⟩,h.d.setCell (p:=⟨w.heap.size+1+1,k,none⟩) (by show w.heap.size≤w.heap.size+1+1; omega) v,PngSL.put (O:=Z) h.l h2 k v⟩
 ·rw[Below.heap_setCell _ _ _ _ (by show w.heap.size≠w.heap.size+1+1; omega)]; exact h.f
 ·rw[BoxAt,Below.heap_setCell _ _ _ _ (by simp)]; exact h.y
end
theorem enters_0:Enters Tryz.prog 86:=enters_of Tryz.func86 (by kernel_rfl) rfl
theorem enters_1:Enters Tryz.prog 11:=enters_of Tryz.func11 (by kernel_rfl) rfl
theorem enters_2:Enters Tryz.prog 16:=enters_of Tryz.func16 (by kernel_rfl) rfl
theorem enters_3:Enters Tryz.prog 18:=enters_of Tryz.func18 (by kernel_rfl) rfl
set_option maxRecDepth 100000 in
set_option maxHeartbeats 6400000 in
theorem implAll (p:Pic) (q:PicA) (b:Nat) (m:Pic) (w:World) (hb:b≤w.heap.size) (hL:PngSL w b p q) (hZ:PngSz p) (hR:RedR p m):
  Calls Tryz.prog 66 #[.agg #[.func (.func 86) #[] #[],.func (.func 11) #[] #[],.func (.func 16) #[] #[],.func (.func 18) #[] #[],.func (.func 20) #[] #[]],pngV p q] w (fun e w'=>∃ q',e=.returned (pngV m q')∧PngSL w' b m q'∧Below w.heap.size w w'):=by
 have A0:Hid (AB w #[.int .i64 p.hw,.int .i64 p.hh,.int .i64 p.hd,.int .i64 p.hc,.bool p.lace,.slice q.ta p.tn q.tc,.slice q.ca p.cn q.cc,.int .i64 p.rw,.int .i64 p.rh,.int .i64 p.rc,.int .i64 p.rd,.slice q.sa p.sn q.sc,.slice q.ka p.kn q.kc] b p q (((w.alloc (.cells #[.func (.func 86) #[] #[],.func (.func 11) #[] #[],.func (.func 16) #[] #[],.func (.func 18) #[] #[],.func (.func 20) #[] #[]] 84)).alloc (.cells #[.int .i64 p.hw,.int .i64 p.hh,.int .i64 p.hd,.int .i64 p.hc,.bool p.lace,.slice q.ta p.tn q.tc,.slice q.ca p.cn q.cc,.int .i64 p.rw,.int .i64 p.rh,.int .i64 p.rc,.int .i64 p.rd,.slice q.sa p.sn q.sc,.slice q.ka p.kn q.kc] 37)).alloc (.cells #[.int .i64 0,.int .i64 0,.int .i64 0,.int .i64 0,.bool false,.slice none 0 0,.slice none 0 0,.int .i64 0,.int .i64 0,.int .i64 0,.int .i64 0,.slice none 0 0,.slice none 0 0] 37))):=AB.start hL _ _ rfl
 have HR:=hid_of hR
 have HB:=hid_of hb
 have HZ:=hid_of hZ
 clear hb hL hZ hR
 simp only [pngV]
 go_enter Tryz.func66,Tryz.ntmps66
 go_upto_block 4 with fail
 have B0:Hid (AB w #[.int .i64 p.hw,.int .i64 p.hh,.int .i64 p.hd,.int .i64 p.hc,.bool p.lace,.slice q.ta p.tn q.tc,.slice q.ca p.cn q.cc,.int .i64 p.rw,.int .i64 p.rh,.int .i64 p.rc,.int .i64 p.rd,.slice q.sa p.sn q.sc,.slice q.ka p.kn q.kc] b p q ((((w.alloc (.cells #[.func (.func 86) #[] #[],.func (.func 11) #[] #[],.func (.func 16) #[] #[],.func (.func 18) #[] #[],.func (.func 20) #[] #[]] 84)).alloc (.cells #[.int .i64 p.hw,.int .i64 p.hh,.int .i64 p.hd,.int .i64 p.hc,.bool p.lace,.slice q.ta p.tn q.tc,.slice q.ca p.cn q.cc,.int .i64 p.rw,.int .i64 p.rh,.int .i64 p.rc,.int .i64 p.rd,.slice q.sa p.sn q.sc,.slice q.ka p.kn q.kc] 37)).alloc (.cells #[.int .i64 0,.int .i64 0,.int .i64 0,.int .i64 0,.bool false,.slice none 0 0,.slice none 0 0,.int .i64 0,.int .i64 0,.int .i64 0,.int .i64 0,.slice none 0 0,.slice none 0 0] 37)).alloc (.cells #[.int .i64 p.hw,.int .i64 p.hh,.int .i64 p.hd,.int .i64 p.hc,.bool p.lace] 32))∧((((w.alloc (.cells #[.func (.func 86) #[] #[],.func (.func 11) #[] #[],.func (.func 16) #[] #[],.func (.func 18) #[] #[],.func (.func 20) #[] #[]] 84)).alloc (.cells #[.int .i64 p.hw,.int .i64 p.hh,.int .i64 p.hd,.int .i64 p.hc,.bool p.lace,.slice q.ta p.tn q.tc,.slice q.ca p.cn q.cc,.int .i64 p.rw,.int .i64 p.rh,.int .i64 p.rc,.int .i64 p.rd,.slice q.sa p.sn q.sc,.slice q.ka p.kn q.kc] 37)).alloc (.cells #[.int .i64 0,.int .i64 0,.int .i64 0,.int .i64 0,.bool false,.slice none 0 0,.slice none 0 0,.int .i64 0,.int .i64 0,.int .i64 0,.int .i64 0,.slice none 0 0,.slice none 0 0] 37)).alloc (.cells #[.int .i64 p.hw,.int .i64 p.hh,.int .i64 p.hd,.int .i64 p.hc,.bool p.lace] 32)).heap[w.heap.size+1+1+1]?=some (.cells #[.int .i64 p.hw,.int .i64 p.hh,.int .i64 p.hd,.int .i64 p.hc,.bool p.lace] 32 (0,0))):=by
  have h:=heap_alloc_new (((w.alloc (.cells #[.func (.func 86) #[] #[],.func (.func 11) #[] #[],.func (.func 16) #[] #[],.func (.func 18) #[] #[],.func (.func 20) #[] #[]] 84)).alloc (.cells #[.int .i64 p.hw,.int .i64 p.hh,.int .i64 p.hd,.int .i64 p.hc,.bool p.lace,.slice q.ta p.tn q.tc,.slice q.ca p.cn q.cc,.int .i64 p.rw,.int .i64 p.rh,.int .i64 p.rc,.int .i64 p.rd,.slice q.sa p.sn q.sc,.slice q.ka p.kn q.kc] 37)).alloc (.cells #[.int .i64 0,.int .i64 0,.int .i64 0,.int .i64 0,.bool false,.slice none 0 0,.slice none 0 0,.int .i64 0,.int .i64 0,.int .i64 0,.int .i64 0,.slice none 0 0,.slice none 0 0] 37)) (.cells #[.int .i64 p.hw,.int .i64 p.hh,.int .i64 p.hd,.int .i64 p.hc,.bool p.lace] 32)
  have es:(((w.alloc (.cells #[.func (.func 86) #[] #[],.func (.func 11) #[] #[],.func (.func 16) #[] #[],.func (.func 18) #[] #[],.func (.func 20) #[] #[]] 84)).alloc (.cells #[.int .i64 p.hw,.int .i64 p.hh,.int .i64 p.hd,.int .i64 p.hc,.bool p.lace,.slice q.ta p.tn q.tc,.slice q.ca p.cn q.cc,.int .i64 p.rw,.int .i64 p.rh,.int .i64 p.rc,.int .i64 p.rd,.slice q.sa p.sn q.sc,.slice q.ka p.kn q.kc] 37)).alloc (.cells #[.int .i64 0,.int .i64 0,.int .i64 0,.int .i64 0,.bool false,.slice none 0 0,.slice none 0 0,.int .i64 0,.int .i64 0,.int .i64 0,.int .i64 0,.slice none 0 0,.slice none 0 0] 37)).heap.size=w.heap.size+1+1+1:=by simp
  rw[es] at h
  exact⟨A0.out.called (bstart _ _),h⟩
 generalize (((w.alloc (.cells #[.func (.func 86) #[] #[],.func (.func 11) #[] #[],.func (.func 16) #[] #[],.func (.func 18) #[] #[],.func (.func 20) #[] #[]] 84)).alloc (.cells #[.int .i64 p.hw,.int .i64 p.hh,.int .i64 p.hd,.int .i64 p.hc,.bool p.lace,.slice q.ta p.tn q.tc,.slice q.ca p.cn q.cc,.int .i64 p.rw,.int .i64 p.rh,.int .i64 p.rc,.int .i64 p.rd,.slice q.sa p.sn q.sc,.slice q.ka p.kn q.kc] 37)).alloc (.cells #[.int .i64 0,.int .i64 0,.int .i64 0,.int .i64 0,.bool false,.slice none 0 0,.slice none 0 0,.int .i64 0,.int .i64 0,.int .i64 0,.int .i64 0,.slice none 0 0,.slice none 0 0] 37)).alloc (.cells #[.int .i64 p.hw,.int .i64 p.hh,.int .i64 p.hd,.int .i64 p.hc,.bool p.lace] 32)=u0 at B0 ⊢
 clear A0
 go_cut [] from 6 (fun wx=>∃ p4 q4,AB w #[.int .i64 p4.hw,.int .i64 p4.hh,.int .i64 p4.hd,.int .i64 p4.hc,.bool p4.lace,.slice q4.ta p4.tn q4.tc,.slice q4.ca p4.cn q4.cc,.int .i64 p4.rw,.int .i64 p4.rh,.int .i64 p4.rc,.int .i64 p4.rd,.slice q4.sa p4.sn q4.sc,.slice q4.ka p4.kn q4.kc] b p4 q4 wx∧Gray3 p4 m∧PngSz p4)
 case first=>
  go_upto_block 3 with fail
  go_cut [] from 6 (fun wx=>∃ p3 q3,AB w #[.int .i64 p3.hw,.int .i64 p3.hh,.int .i64 p3.hd,.int .i64 p3.hc,.bool p3.lace,.slice q3.ta p3.tn q3.tc,.slice q3.ca p3.cn q3.cc,.int .i64 p3.rw,.int .i64 p3.rh,.int .i64 p3.rc,.int .i64 p3.rd,.slice q3.sa p3.sn q3.sc,.slice q3.ka p3.kn q3.kc] b p3 q3 wx∧LateR p3 m∧PngSz p3)
  case first=>
   go_upto_block 2 with fail
   go_cut [] from 6 (fun wx=>∃ p2 q2,AB w #[.int .i64 p2.hw,.int .i64 p2.hh,.int .i64 p2.hd,.int .i64 p2.hc,.bool p2.lace,.slice q2.ta p2.tn q2.tc,.slice q2.ca p2.cn q2.cc,.int .i64 p2.rw,.int .i64 p2.rh,.int .i64 p2.rc,.int .i64 p2.rd,.slice q2.sa p2.sn q2.sc,.slice q2.ka p2.kn q2.kc] b p2 q2 wx∧MidR p2 m∧PngSz p2)
   case first=>
    have hl:=block_lt B0.out.2
    have h2:=(cell_of_block B0.out.2 2).trans rfl
    have h3:=(cell_of_block B0.out.2 3).trans rfl
    by_cases e16:p.hd=16
    ·have k16:(p.hd == 16)=true:=by simp [e16]
     have B1:=hid_of B0.out.1
     clear e16
     go_upto_region 6 with fail
     clear hl h2 h3 B0 k16
     have c1:=implOnce 86 DepC depP p q b u0 enters_0 (Nat.le_trans HB.out B1.out.d.size) B1.out.l (fun W h=>implLessDepth p q W h.lie HZ.out)
     simp only [pngV] at c1
     have bl:=block_lt B1.out.y
     obtain⟨b0,b1,b2,b3,b4,b5,b6,b7,b8,b9,b10,b11,b12⟩:=zqc B1.out.y
     have bf:=unfrozen_of_block B1.out.y
     have fl:=block_lt B1.out.f
     have f0:=(cell_of_block B1.out.f 0).trans rfl
     go_wp2_with fail
     clear bl bf fl f0 b0 b1 b2 b3 b4 b5 b6 b7 b8 b9 b10 b11 b12
     refine c1.mono ?_
     rintro e v1 ⟨x1,y1,hS,rfl,hl,hB⟩
     simp only [pngV]
     have S1:=hid_of hS
     have V1:Hid (AB w #[.int .i64 p.hw,.int .i64 p.hh,.int .i64 p.hd,.int .i64 p.hc,.bool p.lace,.slice q.ta p.tn q.tc,.slice q.ca p.cn q.cc,.int .i64 p.rw,.int .i64 p.rh,.int .i64 p.rc,.int .i64 p.rd,.slice q.sa p.sn q.sc,.slice q.ka p.kn q.kc] b x1 y1 v1):=(B1.out.called hB).other hl
     clear hS hl hB c1
     have T1:=hid_of (((((((((((((V1.out.arg 0 (.int .i64 x1.hw)).arg 1 (.int .i64 x1.hh)).arg 2 (.int .i64 x1.hd)).arg 3 (.int .i64 x1.hc)).arg 4 (.bool x1.lace)).arg 5 (.slice y1.ta x1.tn y1.tc)).arg 6 (.slice y1.ca x1.cn y1.cc)).arg 7 (.int .i64 x1.rw)).arg 8 (.int .i64 x1.rh)).arg 9 (.int .i64 x1.rc)).arg 10 (.int .i64 x1.rd)).arg 11 (.slice y1.sa x1.sn y1.sc)).arg 12 (.slice y1.ka x1.kn y1.kc))
     simp only [zsa,zsb,zsc] at T1
     have bl:=block_lt V1.out.y
     obtain⟨b0,b1,b2,b3,b4,b5,b6,b7,b8,b9,b10,b11,b12⟩:=zqc V1.out.y
     have bf:=unfrozen_of_block V1.out.y
     have fl:=block_lt V1.out.f
     go_wp2_with fail
     have hz:PngSz x1:=by
      rcases S1.out with ⟨h,e⟩ | ⟨_,e⟩
      ·rw[e]; exact half_sz HZ.out _ _
      ·rw[e]; exact HZ.out
     have hm:MidR x1 m:=by
      obtain⟨a,h1,h2⟩:=HR.out
      obtain rfl:=h1.fn S1.out
      exact h2
     go_meet
     case rel=>exact⟨x1,y1,T1.out,hm,hz⟩
    ·have k16:(p.hd == 16)=false:=by simp [e16]
     have HM:=hid_of (HR.out.mid e16)
     by_cases e4:p.hc=4
     ·have k4:(p.hc == 4)=true:=by simp [e4]
      go_wp2_with fail
      go_meet
      case rel=>exact⟨p,q,B0.out.1,HM.out,HZ.out⟩
     ·by_cases e6:p.hc=6
      ·have k6:(p.hc == 6)=true:=by simp [e6]
       have k4:(p.hc == 4)=false:=by simp [e4]
       go_wp2_with fail
       go_meet
       case rel=>exact⟨p,q,B0.out.1,HM.out,HZ.out⟩
      ·have k4:(p.hc == 4)=false:=by simp [e4]
       have k6:(p.hc == 6)=false:=by simp [e6]
       have HL:=hid_of (HM.out.late ⟨e4,e6⟩)
       by_cases e2:p.hc=2
       ·have k2:(p.hc == 2)=true:=by simp [e2]
        go_wp2_with fail
        go_meet
        case rel=>exact⟨p,q,B0.out.1,HL.out,HZ.out⟩
       ·have k2:(p.hc == 2)=false:=by simp [e2]
        have HG:=hid_of (HL.out.gray ⟨e2,e6⟩)
        by_cases e0:p.hc=0
        ·have k0:(p.hc == 0)=true:=by simp [e0]
         go_wp2_with fail
         go_meet
         case rel=>exact⟨p,q,B0.out.1,HG.out,HZ.out⟩
        ·have k0:(p.hc == 0)=false:=by simp [e0]
         have hm:=HG.out.same e0
         subst hm
         have B1:=hid_of B0.out.1
         have bl:=block_lt B1.out.y
         obtain⟨b0,b1,b2,b3,b4,b5,b6,b7,b8,b9,b10,b11,b12⟩:=zqc B1.out.y
         obtain⟨Z,hr,hz⟩:=B1.out.r
         have z0:=(cell_of_block hr 0).trans (Array.getElem?_eq_getElem (by omega))
         have z1:=(cell_of_block hr 1).trans (Array.getElem?_eq_getElem (by omega))
         have z2:=(cell_of_block hr 2).trans (Array.getElem?_eq_getElem (by omega))
         have z3:=(cell_of_block hr 3).trans (Array.getElem?_eq_getElem (by omega))
         have z4:=(cell_of_block hr 4).trans (Array.getElem?_eq_getElem (by omega))
         have z5:=(cell_of_block hr 5).trans (Array.getElem?_eq_getElem (by omega))
         have z6:=(cell_of_block hr 6).trans (Array.getElem?_eq_getElem (by omega))
         have z7:=(cell_of_block hr 7).trans (Array.getElem?_eq_getElem (by omega))
         have z8:=(cell_of_block hr 8).trans (Array.getElem?_eq_getElem (by omega))
         have z9:=(cell_of_block hr 9).trans (Array.getElem?_eq_getElem (by omega))
         have z10:=(cell_of_block hr 10).trans (Array.getElem?_eq_getElem (by omega))
         have z11:=(cell_of_block hr 11).trans (Array.getElem?_eq_getElem (by omega))
         have z12:=(cell_of_block hr 12).trans (Array.getElem?_eq_getElem (by omega))
         have zf:=unfrozen_of_block hr
         have zl:=block_lt hr
         have E5:=hid_of (((((((((((((B1.out.put 0 (.int .i64 m.hw)).put 1 (.int .i64 m.hh)).put 2 (.int .i64 m.hd)).put 3 (.int .i64 m.hc)).put 4 (.bool m.lace)).put 5 (.slice q.ta m.tn q.tc)).put 6 (.slice q.ca m.cn q.cc)).put 7 (.int .i64 m.rw)).put 8 (.int .i64 m.rh)).put 9 (.int .i64 m.rc)).put 10 (.int .i64 m.rd)).put 11 (.slice q.sa m.sn q.sc)).put 12 (.slice q.ka m.kn q.kc))
         go_wp2_with fail
         refine bodyPost_ret (v:=.agg #[.int .i64 m.hw,.int .i64 m.hh,.int .i64 m.hd,.int .i64 m.hc,.bool m.lace,.slice q.ta m.tn q.tc,.slice q.ca m.cn q.cc,.int .i64 m.rw,.int .i64 m.rh,.int .i64 m.rc,.int .i64 m.rd,.slice q.sa m.sn q.sc,.slice q.ka m.kn q.kc]) ?_ rfl ⟨q,rfl,?_,?_⟩
         ·simp[results,Tryz.results66,go_sem, *]
         ·exact E5.out.l
         ·exact E5.out.d
   case rest=>
    obtain⟨p2,q2,hA,hr,hz⟩:=hcut
    have B2:=hid_of hA
    have HM:=hid_of hr
    have Z2:=hid_of hz
    clear hA hr hz HR HZ B0
    have c1:=implOnce 11 CovC covP p2 q2 b wc enters_1 (Nat.le_trans HB.out B2.out.d.size) B2.out.l (fun W h=>implCov p2 q2 W h.lie Z2.out)
    simp only [pngV] at c1
    have bl:=block_lt B2.out.y
    obtain⟨b0,b1,b2,b3,b4,b5,b6,b7,b8,b9,b10,b11,b12⟩:=zqc B2.out.y
    have bf:=unfrozen_of_block B2.out.y
    have fl:=block_lt B2.out.f
    have f1:=(cell_of_block B2.out.f 1).trans rfl
    go_wp2_with fail
    clear bl bf fl f1 b0 b1 b2 b3 b4 b5 b6 b7 b8 b9 b10 b11 b12
    refine c1.mono ?_
    rintro e v2 ⟨x2,y2,hS,rfl,hl,hB⟩
    simp only [pngV]
    have S2:=hid_of hS
    have V2:Hid (AB w #[.int .i64 p2.hw,.int .i64 p2.hh,.int .i64 p2.hd,.int .i64 p2.hc,.bool p2.lace,.slice q2.ta p2.tn q2.tc,.slice q2.ca p2.cn q2.cc,.int .i64 p2.rw,.int .i64 p2.rh,.int .i64 p2.rc,.int .i64 p2.rd,.slice q2.sa p2.sn q2.sc,.slice q2.ka p2.kn q2.kc] b x2 y2 v2):=(B2.out.called hB).other hl
    clear hS hl hB c1
    have T2:=hid_of (((((((((((((V2.out.arg 0 (.int .i64 x2.hw)).arg 1 (.int .i64 x2.hh)).arg 2 (.int .i64 x2.hd)).arg 3 (.int .i64 x2.hc)).arg 4 (.bool x2.lace)).arg 5 (.slice y2.ta x2.tn y2.tc)).arg 6 (.slice y2.ca x2.cn y2.cc)).arg 7 (.int .i64 x2.rw)).arg 8 (.int .i64 x2.rh)).arg 9 (.int .i64 x2.rc)).arg 10 (.int .i64 x2.rd)).arg 11 (.slice y2.sa x2.sn y2.sc)).arg 12 (.slice y2.ka x2.kn y2.kc))
    simp only [zsa,zsb,zsc] at T2
    have bl:=block_lt V2.out.y
    obtain⟨b0,b1,b2,b3,b4,b5,b6,b7,b8,b9,b10,b11,b12⟩:=zqc V2.out.y
    have bf:=unfrozen_of_block V2.out.y
    have fl:=block_lt V2.out.f
    go_wp2_with fail
    have hz:PngSz x2:=by
     rcases S2.out with ⟨h,e⟩ | ⟨_,e⟩
     ·rw[e]; exact cov_sz Z2.out h
     ·rw[e]; exact Z2.out
    have hm:LateR x2 m:=by
     obtain⟨a,h1,h2⟩:=HM.out
     obtain rfl:=h1.fn S2.out
     exact h2
    go_meet
    case rel=>exact⟨x2,y2,T2.out,hm,hz⟩
  case rest=>
   obtain⟨p3,q3,hA,hr,hz⟩:=hcut
   have B3:=hid_of hA
   have HL:=hid_of hr
   have Z3:=hid_of hz
   clear hA hr hz HR HZ B0
   have c1:=implOnce 16 ColC colP p3 q3 b wc enters_2 (Nat.le_trans HB.out B3.out.d.size) B3.out.l (fun W h=>implCol p3 q3 W h.lie Z3.out h.cap_le)
   simp only [pngV] at c1
   have bl:=block_lt B3.out.y
   obtain⟨b0,b1,b2,b3,b4,b5,b6,b7,b8,b9,b10,b11,b12⟩:=zqc B3.out.y
   have bf:=unfrozen_of_block B3.out.y
   have fl:=block_lt B3.out.f
   have f2:=(cell_of_block B3.out.f 2).trans rfl
   go_wp2_with fail
   clear bl bf fl f2 b0 b1 b2 b3 b4 b5 b6 b7 b8 b9 b10 b11 b12
   refine c1.mono ?_
   rintro e v3 ⟨x3,y3,hS,rfl,hl,hB⟩
   simp only [pngV]
   have S3:=hid_of hS
   have V3:Hid (AB w #[.int .i64 p3.hw,.int .i64 p3.hh,.int .i64 p3.hd,.int .i64 p3.hc,.bool p3.lace,.slice q3.ta p3.tn q3.tc,.slice q3.ca p3.cn q3.cc,.int .i64 p3.rw,.int .i64 p3.rh,.int .i64 p3.rc,.int .i64 p3.rd,.slice q3.sa p3.sn q3.sc,.slice q3.ka p3.kn q3.kc] b x3 y3 v3):=(B3.out.called hB).other hl
   clear hS hl hB c1
   have T3:=hid_of (((((((((((((V3.out.arg 0 (.int .i64 x3.hw)).arg 1 (.int .i64 x3.hh)).arg 2 (.int .i64 x3.hd)).arg 3 (.int .i64 x3.hc)).arg 4 (.bool x3.lace)).arg 5 (.slice y3.ta x3.tn y3.tc)).arg 6 (.slice y3.ca x3.cn y3.cc)).arg 7 (.int .i64 x3.rw)).arg 8 (.int .i64 x3.rh)).arg 9 (.int .i64 x3.rc)).arg 10 (.int .i64 x3.rd)).arg 11 (.slice y3.sa x3.sn y3.sc)).arg 12 (.slice y3.ka x3.kn y3.kc))
   simp only [zsa,zsb,zsc] at T3
   have bl:=block_lt V3.out.y
   obtain⟨b0,b1,b2,b3,b4,b5,b6,b7,b8,b9,b10,b11,b12⟩:=zqc V3.out.y
   have bf:=unfrozen_of_block V3.out.y
   have fl:=block_lt V3.out.f
   go_upto_region 9 with fail
   clear bl bf fl b0 b1 b2 b3 b4 b5 b6 b7 b8 b9 b10 b11 b12
   generalize ((((((((((((v3.setCell ⟨w.heap.size+1,0,none⟩ (.int .i64 x3.hw)).setCell ⟨w.heap.size+1,1,none⟩ (.int .i64 x3.hh)).setCell ⟨w.heap.size+1,2,none⟩ (.int .i64 x3.hd)).setCell ⟨w.heap.size+1,3,none⟩ (.int .i64 x3.hc)).setCell ⟨w.heap.size+1,4,none⟩ (.bool x3.lace)).setCell ⟨w.heap.size+1,5,none⟩ (.slice y3.ta x3.tn y3.tc)).setCell ⟨w.heap.size+1,6,none⟩ (.slice y3.ca x3.cn y3.cc)).setCell ⟨w.heap.size+1,7,none⟩ (.int .i64 x3.rw)).setCell ⟨w.heap.size+1,8,none⟩ (.int .i64 x3.rh)).setCell ⟨w.heap.size+1,9,none⟩ (.int .i64 x3.rc)).setCell ⟨w.heap.size+1,10,none⟩ (.int .i64 x3.rd)).setCell ⟨w.heap.size+1,11,none⟩ (.slice y3.sa x3.sn y3.sc)).setCell ⟨w.heap.size+1,12,none⟩ (.slice y3.ka x3.kn y3.kc)=u3 at T3 ⊢
   have hz:PngSz x3:=by
    rcases S3.out with ⟨h,e⟩ | ⟨_,e⟩
    ·rw[e]; exact colP_sz h Z3.out
    ·rw[e]; exact Z3.out
   have X3:=hid_of hz
   clear hz
   have c1:=implOnce 18 TblC tblP x3 y3 b u3 enters_3 (Nat.le_trans HB.out T3.out.d.size) T3.out.l (fun W h=>implTblAll x3 y3 W h.lie X3.out)
   simp only [pngV] at c1
   have bl:=block_lt T3.out.y
   obtain⟨b0,b1,b2,b3,b4,b5,b6,b7,b8,b9,b10,b11,b12⟩:=zqc T3.out.y
   have bf:=unfrozen_of_block T3.out.y
   have fl:=block_lt T3.out.f
   have f3:=(cell_of_block T3.out.f 3).trans rfl
   go_wp2_with fail
   clear bl bf fl f3 b0 b1 b2 b3 b4 b5 b6 b7 b8 b9 b10 b11 b12
   refine c1.mono ?_
   rintro e v4 ⟨x4,y4,hS,rfl,hl,hB⟩
   simp only [pngV]
   have S4:=hid_of hS
   have V4:Hid (AB w #[.int .i64 x3.hw,.int .i64 x3.hh,.int .i64 x3.hd,.int .i64 x3.hc,.bool x3.lace,.slice y3.ta x3.tn y3.tc,.slice y3.ca x3.cn y3.cc,.int .i64 x3.rw,.int .i64 x3.rh,.int .i64 x3.rc,.int .i64 x3.rd,.slice y3.sa x3.sn y3.sc,.slice y3.ka x3.kn y3.kc] b x4 y4 v4):=(T3.out.called hB).other hl
   clear hS hl hB c1
   have T4:=hid_of (((((((((((((V4.out.arg 0 (.int .i64 x4.hw)).arg 1 (.int .i64 x4.hh)).arg 2 (.int .i64 x4.hd)).arg 3 (.int .i64 x4.hc)).arg 4 (.bool x4.lace)).arg 5 (.slice y4.ta x4.tn y4.tc)).arg 6 (.slice y4.ca x4.cn y4.cc)).arg 7 (.int .i64 x4.rw)).arg 8 (.int .i64 x4.rh)).arg 9 (.int .i64 x4.rc)).arg 10 (.int .i64 x4.rd)).arg 11 (.slice y4.sa x4.sn y4.sc)).arg 12 (.slice y4.ka x4.kn y4.kc))
   simp only [zsa,zsb,zsc] at T4
   have bl:=block_lt V4.out.y
   obtain⟨b0,b1,b2,b3,b4,b5,b6,b7,b8,b9,b10,b11,b12⟩:=zqc V4.out.y
   have bf:=unfrozen_of_block V4.out.y
   have fl:=block_lt V4.out.f
   go_wp2_with fail
   have hz:PngSz x4:=by
    rcases S4.out with ⟨h,e⟩ | ⟨_,e⟩
    ·rw[e]; exact tblP_sz h X3.out
    ·rw[e]; exact X3.out
   have hm:Gray3 x4 m:=by
    obtain⟨a,c,h1,h2,h3⟩:=HL.out
    obtain rfl:=h1.fn S3.out
    obtain rfl:=h2.fn S4.out
    exact h3
   go_meet
   case rel=>exact⟨x4,y4,T4.out,hm,hz⟩
 case rest=>
  obtain⟨p4,q4,hA,hr,hz⟩:=hcut
  have B4:=hid_of hA
  have c1:=implAgain p4 q4 b m wc (Nat.le_trans HB.out B4.out.d.size) B4.out.l hz hr
  simp only [pngV] at c1
  clear hA hr hz HR HZ B0
  have bl:=block_lt B4.out.y
  obtain⟨b0,b1,b2,b3,b4,b5,b6,b7,b8,b9,b10,b11,b12⟩:=zqc B4.out.y
  have bf:=unfrozen_of_block B4.out.y
  have fl:=block_lt B4.out.f
  have f4:=(cell_of_block B4.out.f 4).trans rfl
  go_wp2_with fail
  clear bl bf fl f4 b0 b1 b2 b3 b4 b5 b6 b7 b8 b9 b10 b11 b12
  refine c1.mono ?_
  rintro e v5 ⟨y5,rfl,hl,hB⟩
  have V5:Hid (AB w #[.int .i64 p4.hw,.int .i64 p4.hh,.int .i64 p4.hd,.int .i64 p4.hc,.bool p4.lace,.slice q4.ta p4.tn q4.tc,.slice q4.ca p4.cn q4.cc,.int .i64 p4.rw,.int .i64 p4.rh,.int .i64 p4.rc,.int .i64 p4.rd,.slice q4.sa p4.sn q4.sc,.slice q4.ka p4.kn q4.kc] b m y5 v5):=(B4.out.called hB).other hl
  clear hl hB c1 B4
  have T5:=hid_of (((((((((((((V5.out.arg 0 (.int .i64 m.hw)).arg 1 (.int .i64 m.hh)).arg 2 (.int .i64 m.hd)).arg 3 (.int .i64 m.hc)).arg 4 (.bool m.lace)).arg 5 (.slice y5.ta m.tn y5.tc)).arg 6 (.slice y5.ca m.cn y5.cc)).arg 7 (.int .i64 m.rw)).arg 8 (.int .i64 m.rh)).arg 9 (.int .i64 m.rc)).arg 10 (.int .i64 m.rd)).arg 11 (.slice y5.sa m.sn y5.sc)).arg 12 (.slice y5.ka m.kn y5.kc))
  simp only [zsa,zsb,zsc] at T5
  have bl:=block_lt V5.out.y
  obtain⟨b0,b1,b2,b3,b4,b5,b6,b7,b8,b9,b10,b11,b12⟩:=zqc V5.out.y
  have bf:=unfrozen_of_block V5.out.y
  have fl:=block_lt V5.out.f
  go_upto_region 11 with fail
  clear bl bf fl b0 b1 b2 b3 b4 b5 b6 b7 b8 b9 b10 b11 b12
  generalize ((((((((((((v5.setCell ⟨w.heap.size+1,0,none⟩ (.int .i64 m.hw)).setCell ⟨w.heap.size+1,1,none⟩ (.int .i64 m.hh)).setCell ⟨w.heap.size+1,2,none⟩ (.int .i64 m.hd)).setCell ⟨w.heap.size+1,3,none⟩ (.int .i64 m.hc)).setCell ⟨w.heap.size+1,4,none⟩ (.bool m.lace)).setCell ⟨w.heap.size+1,5,none⟩ (.slice y5.ta m.tn y5.tc)).setCell ⟨w.heap.size+1,6,none⟩ (.slice y5.ca m.cn y5.cc)).setCell ⟨w.heap.size+1,7,none⟩ (.int .i64 m.rw)).setCell ⟨w.heap.size+1,8,none⟩ (.int .i64 m.rh)).setCell ⟨w.heap.size+1,9,none⟩ (.int .i64 m.rc)).setCell ⟨w.heap.size+1,10,none⟩ (.int .i64 m.rd)).setCell ⟨w.heap.size+1,11,none⟩ (.slice y5.sa m.sn y5.sc)).setCell ⟨w.heap.size+1,12,none⟩ (.slice y5.ka m.kn y5.kc)=u5 at T5 ⊢
  clear V5
  have bl:=block_lt T5.out.y
  obtain⟨b0,b1,b2,b3,b4,b5,b6,b7,b8,b9,b10,b11,b12⟩:=zqc T5.out.y
  obtain⟨Z,hr,hz⟩:=T5.out.r
  have z0:=(cell_of_block hr 0).trans (Array.getElem?_eq_getElem (by omega))
  have z1:=(cell_of_block hr 1).trans (Array.getElem?_eq_getElem (by omega))
  have z2:=(cell_of_block hr 2).trans (Array.getElem?_eq_getElem (by omega))
  have z3:=(cell_of_block hr 3).trans (Array.getElem?_eq_getElem (by omega))
  have z4:=(cell_of_block hr 4).trans (Array.getElem?_eq_getElem (by omega))
  have z5:=(cell_of_block hr 5).trans (Array.getElem?_eq_getElem (by omega))
  have z6:=(cell_of_block hr 6).trans (Array.getElem?_eq_getElem (by omega))
  have z7:=(cell_of_block hr 7).trans (Array.getElem?_eq_getElem (by omega))
  have z8:=(cell_of_block hr 8).trans (Array.getElem?_eq_getElem (by omega))
  have z9:=(cell_of_block hr 9).trans (Array.getElem?_eq_getElem (by omega))
  have z10:=(cell_of_block hr 10).trans (Array.getElem?_eq_getElem (by omega))
  have z11:=(cell_of_block hr 11).trans (Array.getElem?_eq_getElem (by omega))
  have z12:=(cell_of_block hr 12).trans (Array.getElem?_eq_getElem (by omega))
  have zf:=unfrozen_of_block hr
  have zl:=block_lt hr
  have E5:=hid_of (((((((((((((T5.out.put 0 (.int .i64 m.hw)).put 1 (.int .i64 m.hh)).put 2 (.int .i64 m.hd)).put 3 (.int .i64 m.hc)).put 4 (.bool m.lace)).put 5 (.slice y5.ta m.tn y5.tc)).put 6 (.slice y5.ca m.cn y5.cc)).put 7 (.int .i64 m.rw)).put 8 (.int .i64 m.rh)).put 9 (.int .i64 m.rc)).put 10 (.int .i64 m.rd)).put 11 (.slice y5.sa m.sn y5.sc)).put 12 (.slice y5.ka m.kn y5.kc))
  go_wp2_with fail
  refine bodyPost_ret (v:=.agg #[.int .i64 m.hw,.int .i64 m.hh,.int .i64 m.hd,.int .i64 m.hc,.bool m.lace,.slice y5.ta m.tn y5.tc,.slice y5.ca m.cn y5.cc,.int .i64 m.rw,.int .i64 m.rh,.int .i64 m.rc,.int .i64 m.rd,.slice y5.sa m.sn y5.sc,.slice y5.ka m.kn y5.kc]) ?_ rfl ⟨y5,rfl,?_,?_⟩
  ·simp[results,Tryz.results66,go_sem, *]
  ·exact E5.out.l
  ·exact E5.out.d
end Go.Proofs.YtkpbfmdnjnohlaaGreat
