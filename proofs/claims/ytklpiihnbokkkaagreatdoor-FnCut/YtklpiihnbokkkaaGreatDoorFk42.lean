/-
  Texts of the proof, put together.
-/
import Derived.Test.YtklpiihnbokkkaaGreatDoorFk41
namespace Go.Proofs.YtklpiihnbokkkaaGreatDoor
section
open Go.RowKit Go.Joins TokMath CodeMath RunsMath InfMath TrimMath TokLenMath PartMath BodyMath WovenMath
section
variable {w:World} {L:List Tok}
theorem runsOf_woven (h:TokensRight L) (W:World) (a:Option Addr) (c:Nat) (hC:Came W a (sizeA L+sizeB L) (fC L)):
  Calls Tryz.prog 174 #[.slice a (sizeA L+sizeB L) c] W fun e w'=>∃ (a':Option Addr) (cap':Nat),e=.returned (.tuple #[.slice a' (runsW L).length cap',.bool true])∧DCame w' a' (runsW L).length (fun j=>(runsW L).getD j (0,0))∧Below W.heap.size W w':=by
 have hf:=fineC h
 have hn:=nC_le L
 have h0:=(runs_answer a (sizeA L+sizeB L) c (fC L) W hC (by unfold nC at hn; omega) (fun i hi=>by have:=hf i hi; exact wf_small _ (by omega) (by omega))).1 ⟨by unfold nC at hn; omega,fun i hi=>hf i hi⟩
 refine h0.mono ?_
 rintro e w' ⟨a',cap',rfl,hd,_,hB⟩
 exact⟨a',cap',rfl,hd.came,hB⟩
end
def LpK (w X:World) (ar:Option Addr) (gth cth gt nR nT:Nat) (R:List (Int×Int)):Prop:=DCame X ar nR (fun j=>R.getD j (0,0))∧IOwn X w.heap.size gth 19 cth (third R)∧IOwn X w.heap.size gt nT 19 (toldF R)∧Below w.heap.size w X
theorem LpK.called {w X Y:World} {ar:Option Addr} {gth cth gt nR nT:Nat} {R:List (Int×Int)} (h:LpK w X ar gth cth gt nR nT R) (hb:Below X.heap.size X Y):LpK w Y ar gth cth gt nR nT R:=⟨h.1.called hb,h.2.1.called hb,h.2.2.1.called hb,bnext h.2.2.2 hb⟩
theorem extra_below (x:Int) (w:World) (h0:0≤x) (h1:x≤18):Calls Tryz.prog 177 #[.int .i64 x] w fun e w'=>e=.returned (.int .i64 ((bitsOf x:Nat):Int))∧Below w.heap.size w w':=by
 refine (bits_answer x w (wf_small _ (by omega) (by omega))).mono ?_
 rintro e w' ⟨rfl,k,os,rfl⟩
 exact⟨rfl,below_grow2 k os⟩
set_option maxRecDepth 100000 in
set_option maxHeartbeats 6400000 in
theorem lens_core (a1 a2:Option Addr) (k1 k2 nA nB nT nR:Nat) (R:List (Int×Int)) (fc:Nat→Int) (w:World) (bA1:257≤nA) (bA2:nA≤286) (bB1:1≤nB) (bB2:nB≤30) (bT1:4≤nT) (bT2:nT≤19) (hnR:R.length=nR) (bR:nR≤316)
  (hsy:∀ r∈R,0≤r.1∧r.1≤18) (hG:OrderG w) (hcd:Coded (third R) 19)
  (hCA:∀ t,Calls Tryz.prog 123 #[.slice (some ⟨w.heap.size,0,none⟩) 2 2] (w.alloc (.cells #[.slice a1 nA k1,.slice a2 nB k2] t)) fun e w'=>∃ a c,e=.returned (.slice a (nA+nB) c)∧Came w' a (nA+nB) fc∧Below w.heap.size w w')
  (hRU:∀ W a c,Came W a (nA+nB) fc→Calls Tryz.prog 174 #[.slice a (nA+nB) c] W fun e w'=>∃ (a':Option Addr) (cap':Nat),e=.returned (.tuple #[.slice a' nR cap',.bool true])∧DCame w' a' nR (fun j=>R.getD j (0,0))∧Below W.heap.size W w')
  (hTH:∀ W a c,DCame W a nR (fun j=>R.getD j (0,0))→Calls Tryz.prog 175 #[.slice a nR c] W fun e w'=>∃ g cap,e=.returned (.slice (some ⟨g,0,none⟩) 19 cap)∧IOwn w' W.heap.size g 19 cap (third R)∧Below W.heap.size W w')
  (hTO:∀ W a c,Came W a 19 (third R)→OrderG W→Calls Tryz.prog 176 #[.slice a 19 c] W fun e w'=>∃ g,e=.returned (.slice (some ⟨g,0,none⟩) nT 19)∧IOwn w' W.heap.size g nT 19 (toldF R)∧Below W.heap.size W w'):
  Calls Tryz.prog 134 #[.slice a1 nA k1,.slice a2 nB k2] w fun e w'=>∃ v,e=.returned v∧w'.ownsRow w.heap.size 115 3 v (whd nA nB nT ++ toldTo R nT ++ runsP R R).length (pcells (whd nA nB nT ++ toldTo R nT ++ runsP R R))∧Below w.heap.size w w':=by
 have HG:=hid_of hG
 have HSY:=hid_of hsy
 have HNR:=hid_of hnR
 have HCD:=hid_of hcd
 have HRU:=hid_of hRU
 have HTH:=hid_of hTH
 have HTO:=hid_of hTO
 clear hG hsy hnR hcd hRU hTH hTO
 go_enter Tryz.func134,Tryz.ntmps134
 go_wp2_with fail
 refine (hCA _).mono ?_
 rintro e w1 ⟨ac,cc,rfl,c1,b1⟩
 have H1:=hid_of (And.intro c1 b1)
 clear c1 b1 hCA
 go_wp2_with fail
 refine (HRU.out w1 ac cc H1.out.1).mono ?_
 rintro e w2 ⟨ar,cr,rfl,d2,b2⟩
 have H2:=hid_of (And.intro d2 (bnext H1.out.2 b2))
 clear d2 b2 H1 HRU
 go_wp2_with fail
 refine (HTH.out w2 ar cr H2.out.1).mono ?_
 rintro e w3 ⟨gth,cth,rfl,o3,b3⟩
 have H3:Hid (DCame w3 ar nR (fun j=>R.getD j (0,0))∧IOwn w3 w.heap.size gth 19 cth (third R)∧Below w.heap.size w w3):=⟨H2.out.1.called b3,o3.mono H2.out.2.size,bnext H2.out.2 b3⟩
 clear o3 b3 H2 HTH
 go_wp2_with fail
 refine (HTO.out w3 _ cth H3.out.2.1.sl.came (HG.out.below H3.out.2.2 HG.out.1)).mono ?_
 rintro e w4 ⟨gt,rfl,o4,b4⟩
 have H4:Hid (LpK w w4 ar gth cth gt nR nT R):=⟨H3.out.1.called b4,H3.out.2.1.called b4,o4.mono H3.out.2.2.size,bnext H3.out.2.2 b4⟩
 clear o4 b4 H3 HTO HG
 go_wp2_with fail
 refine (numberPart_any _ _ _).mono ?_
 rintro e w5 ⟨rfl,b5⟩
 have H5:=hid_of (H4.out.called b5)
 clear b5 H4
 go_wp2_with fail
 refine (numberPart_any _ _ _).mono ?_
 rintro e w6 ⟨rfl,b6⟩
 have H6:=hid_of (H5.out.called b6)
 clear b6 H5
 go_wp2_with fail
 refine (numberPart_any _ _ _).mono ?_
 rintro e wK ⟨rfl,b7⟩
 have HK:=hid_of (H6.out.called b7)
 clear b7 H6
 have H0:Hid (Lp1 115 wK (wK.alloc (.cells #[.int .i64 ((nA:Int) - 257),.int .i64 5,.bool false,.int .i64 ((nB:Int) - 1),.int .i64 5,.bool false,.int .i64 ((nT:Int) - 4),.int .i64 4,.bool false] 115)) (whd nA nB nT) (.slice (some ⟨wK.heap.size,0,none⟩) 3 3)):=⟨bstart _ _,own_lit wK 115 wK.heap.size (Nat.le_refl _) (whd nA nB nT) (by simp [whd])⟩
 go_wp2_with fail
 generalize wK.alloc _=X0 at H0 ⊢
 go_loopg [9,42] (nT+1) (fun gk v i w'=>∃ (j g1 c1:Nat),j≤nT∧nT - j≤gk∧i=.int .i64 j∧v=.slice (some ⟨g1,0,none⟩) (3+j) c1∧Hid (Lp1 115 wK w' (whd nA nB nT ++ toldTo R j) (.slice (some ⟨g1,0,none⟩) (3+j) c1)))
 case atStart=>exact⟨0,wK.heap.size,3,Nat.zero_le _,by omega,rfl,rfl,by simpa [toldTo] using H0⟩
 case round=>
  clear H0
  obtain⟨j,g1,cp1,hj,hgk,rfl,rfl,hS⟩:=hrel
  by_cases hlt:j < nT
  ·have dl:decide ((j:Int) < (nT:Int))=true:=decide_eq_true (by omega)
   have hK1:=HK.out.called hS.out.1
   have t1:=hK1.2.2.1.cell j hlt
   have t2:=hK1.2.2.1.lt
   have HT:=hid_of (toldTo_next R j)
   have HL:Hid ((whd nA nB nT ++ toldTo R j).length=3+j):=by rw [List.length_append,toldTo_length]; rfl
   clear hK1
   obtain⟨V,hV⟩:∃ V,V=toldF R j:=⟨_,rfl⟩
   rw[← hV] at t1 HT
   clear hV
   go_wp2_with fail
   refine (numberPart_any _ _ _).mono ?_
   rintro e w' ⟨rfl,hB⟩
   have HS:Hid (Lp1 115 wK w' (whd nA nB nT ++ toldTo R j) (.slice (some ⟨g1,0,none⟩) (3+j) cp1)):=⟨hS.out.1.trans (hB.mono hS.out.1.size),row_called hS.out.2 hB⟩
   clear hB hS
   go_wp2_with (at_builtin; refine parts_append Tryz.underlying118 info_part9 (S:=wK.heap.size) (xs:=whd nA nB nT ++ toldTo R j) (ys:=[(V,3,false)]) rfl _ _ rfl rfl (World.ownsRow.alloc HS.out.2 _) ⟨w'.heap.size,0,none⟩ 1 1 rfl rfl (news_part w' _ _ _ _ _ rfl) (by rw [HL.out]; simp only [List.length_singleton]; omega) (by have:=HS.out.1.size; simp; omega) ?_)
   intro v' w5 y1 y2 y3
   have y4:w5.ownsRow wK.heap.size 115 3 v' (whd nA nB nT ++ toldTo R (j+1)).length (pcells (whd nA nB nT ++ toldTo R (j+1))):=by
    rw[HT.out]
    simpa using y1
   have hl2:(whd nA nB nT ++ toldTo R (j+1)).length=3+(j+1):=by rw [List.length_append,toldTo_length]; rfl
   have hB5:Below wK.heap.size wK w5:=(HS.out.1.trans ((bstart w' (.cells #[.int .i64 V,.int .i64 3,.bool false] 115)).mono HS.out.1.size)).grown y2 (by have:=HS.out.1.size; simp; omega) (fun k e=>(World.ownsRow.lt HS.out.2 k e).1)
   obtain⟨g5,cp5,rfl⟩:=own_slice y4 (by omega)
   rw[hl2]
   have HN:Hid (Lp1 115 wK w5 (whd nA nB nT ++ toldTo R (j+1)) (.slice (some ⟨g5,0,none⟩) (3+(j+1)) cp5)):=⟨hB5,by rw [hl2] at y4; rw [hl2]; exact y4⟩
   clear y1 y2 y3 y4 hB5 hl2
   go_wp2_with fail
   go_roundg (nT - (j+1))
   case measure=>omega
   case rel=>exact⟨j+1,g5,cp5,by omega,Nat.le_refl _,by go_num,rfl,HN⟩
  ·obtain rfl:nT=j:=by omega
   have dl:decide ((nT:Int) < (nT:Int))=false:=decide_eq_false (by omega)
   have hpn:=newPen_own (some ⟨gth,0,none⟩) 19 cth (third R) wr (HK.out.2.1.called hS.out.1).sl.came (by omega) HCD.out.2.1
   unfold penV at hpn
   have hgv:wK.heap.size≤g1∧g1 < wr.heap.size:=World.ownsRow.lt hS.out.2 g1 rfl
   go_wp2_with fail
   refine hpn.mono ?_
   clear hpn
   rintro e wP ⟨o,m,ko,rfl,hs,hm,hBP⟩
   obtain rfl:=hm HCD.out
   obtain⟨go,rfl,hO⟩:∃ g,o=some ⟨g,0,none⟩∧IOwn wP wr.heap.size g 19 ko (codeOf (third R) 19):=by
    rcases hs with q | q
    ·omega
    ·exact q
   clear hs hm
   obtain⟨wQ,hwQ⟩:∃ wQ,wQ=wP.alloc (.cells #[.slice (some ⟨gth,0,none⟩) 19 cth,.slice (some ⟨go,0,none⟩) 19 ko] 183):=⟨_,rfl⟩
   have hbQ:Below wP.heap.size wP wQ:=by
    rw[hwQ]
    exact bstart _ _
   have hpb:wQ.heap[wP.heap.size]?=some (.cells #[.slice (some ⟨gth,0,none⟩) 19 cth,.slice (some ⟨go,0,none⟩) 19 ko] 183 (0,0)):=by
    rw[hwQ]
    exact heap_alloc_new wP _
   have HQK:=hid_of (((HK.out.called hS.out.1).called hBP).called hbQ)
   have HQO:=hid_of (hO.called hbQ)
   have HQR:Hid (LpQ 115 wQ wQ wK.heap.size g1 (.slice (some ⟨g1,0,none⟩) (3+nT) cp1) (whd nA nB nT ++ toldTo R nT)):=⟨⟨rfl,rfl,rfl,Nat.le_refl _,fun _ _ _=>rfl⟩,row_called (row_called hS.out.2 hBP) hbQ,g1,rfl,.inl rfl⟩
   have HPB:=hid_of hpb
   have hgo:=hO.base_le
   have hpl:=block_lt hpb
   have hgl:=(hO.called hbQ).lt
   have hgthl:=HK.out.2.1.lt
   have hwK:=HK.out.2.2.2.size
   have hPs:=hBP.size
   have HKB:=hid_of HK.out.1
   have HWQ:=hid_of hwQ
   clear hS hO hbQ hBP hpb hwQ HK
   go_wp2_with fail
   rw[← HWQ.out]
   clear HWQ
   generalize wP.heap.size=pb at *
   go_loopg [9,56] (nR+1) (fun gk v i w'=>∃ (j g2 c2:Nat),j≤nR∧nR - j≤gk∧i=.int .i64 j∧v=.slice (some ⟨g2,0,none⟩) (3+nT+2 * j) c2∧Hid (LpQ 115 wQ w' wK.heap.size g1 (.slice (some ⟨g2,0,none⟩) (3+nT+2 * j) c2) (whd nA nB nT ++ toldTo R nT ++ runsP R (R.take j))))
   case atStart=>exact⟨0,g1,cp1,Nat.zero_le _,by omega,rfl,rfl,by simpa [runsP] using HQR⟩
   case round=>
    clear HQR
    obtain⟨j,g2,cp2,hj2,hgk2,rfl,rfl,hS⟩:=hrel
    by_cases hlt2:j < nR
    ·have dl2:decide ((j:Int) < (nR:Int))=true:=decide_eq_true (by omega)
     have hrl:j < R.length:=by rw [HNR.out]; exact hlt2
     obtain⟨gr,off,hra,hrg,hc⟩:∃ gr off,ar=some ⟨gr,off,none⟩∧gr < wK.heap.size∧∀ q,q < nR→wr.cell? ⟨gr,off+q * 2,none⟩=some (.int .i64 (R.getD q (0,0)).1)∧wr.cell? ⟨gr,off+q * 2+1,none⟩=some (.int .i64 (R.getD q (0,0)).2):=by
      rcases HKB.out with q | ⟨gr,off,hra,hrg,_⟩
      ·omega
      ·rcases HQK.out.1.grown (B:=wK.heap.size) (fun g o e=>by rw [hra] at e; cases e; exact hrg) (fun k e=>by cases e; exact hgv.1) hS.out.1 with q | ⟨gr',off',hra',_,hc⟩
       ·omega
       ·rw[hra] at hra'
        cases hra'
        exact⟨gr,off,hra,hrg,hc⟩
     subst hra
     obtain⟨f0,f1⟩:=hc j hlt2
     have hb:=HSY.out (R.getD j (0,0)) (by rw [List.getD_eq_getElem?_getD,List.getElem?_eq_getElem hrl]; exact List.getElem_mem hrl)
     have htk:=take_run hrl
     have hgrl:gr < wr.heap.size:=Nat.lt_of_lt_of_le (by have:=HQK.out.2.2.2.size; omega) hS.out.1.size
     obtain⟨⟨s,x⟩,hr⟩:∃ r,r=R.getD j (0,0):=⟨_,rfl⟩
     rw[← hr] at f0 f1 hb htk
     simp only [] at f0 f1 hb
     obtain⟨sn,rfl⟩:=Int.eq_ofNat_of_zero_le hb.1
     have hsn:sn < 19:=by omega
     have HTK:=hid_of htk
     have hpw:wr.heap[pb]?=some (.cells #[.slice (some ⟨gth,0,none⟩) 19 cth,.slice (some ⟨go,0,none⟩) 19 ko] 183 (0,0)):=(hS.out.1.block pb hpl (fun e=>by have:=Option.some.inj e; omega)).trans HPB.out
     have HPW:=hid_of hpw
     have hpwl:=block_lt hpw
     obtain⟨g2',hg2,hg2'⟩:=hS.out.2.2
     have hg2e:g2=g2':=Option.some.inj hg2
     subst hg2e
     have hpg:pb≠g2:=by omega
     have hg2l:=(World.ownsRow.lt hS.out.2.1 g2 rfl).2
     have HKW:Hid (Came wr (some ⟨gth,0,none⟩) 19 (third R)∧Came wr (some ⟨go,0,none⟩) 19 (codeOf (third R) 19)):=⟨(HQK.out.2.1.grown hS.out.1 (fun e=>by have:=Option.some.inj e; omega)).sl.came,(HQO.out.grown hS.out.1 (fun e=>by have:=Option.some.inj e; omega)).sl.came⟩
     have HL:Hid ((whd nA nB nT ++ toldTo R nT ++ runsP R (R.take j)).length=3+nT+2 * j):=by
      rw[List.length_append,List.length_append,toldTo_length,runsP_length,List.length_take,Nat.min_eq_left (by omega)]
      rfl
     have HPN:Hid (whd nA nB nT ++ toldTo R nT ++ runsP R (R.take (j+1))=whd nA nB nT ++ toldTo R nT ++ runsP R (R.take j) ++ [codeP (third R) 19 sn,(x,bitsOf (sn:Int),false)]):=by
      rw[HTK.out,runsP_snoc,← List.append_assoc]
      rfl
     generalize hPj:whd nA nB nT ++ toldTo R nT ++ runsP R (R.take j)=Pj at *
     have HWS:Hid (∀ W,Came W (some ⟨gth,0,none⟩) 19 (third R)∧Came W (some ⟨go,0,none⟩) 19 (codeOf (third R) 19)→LpQ 115 wQ W wK.heap.size g1 (.slice (some ⟨g2,0,none⟩) (3+nT+2 * j) cp2) Pj→wK.heap.size≤W.heap.size→Calls Tryz.prog 127 #[.agg #[.slice (some ⟨gth,0,none⟩) 19 cth,.slice (some ⟨go,0,none⟩) 19 ko],.slice (some ⟨g2,0,none⟩) (3+nT+2 * j) cp2,.agg #[.int .i64 (sn:Int),.int .i64 ((bitsOf (sn:Int):Nat):Int),.int .i64 x]] W fun e w'=>∃ g cap,e=.returned (.slice (some ⟨g,0,none⟩) (3+nT+2 * j+2) cap)∧LpQ 115 wQ w' wK.heap.size g1 (.slice (some ⟨g,0,none⟩) (3+nT+2 * j+2) cap) (Pj ++ [codeP (third R) 19 sn,(x,bitsOf (sn:Int),false)])∧W.grownBy w' (some g2)):=by
      intro W h1 h2 h3
      refine (withSymbol_at (some ⟨gth,0,none⟩) (some ⟨go,0,none⟩) 19 cth 19 ko sn (bitsOf (sn:Int)) x (third R) wK.heap.size (.slice (some ⟨g2,0,none⟩) (3+nT+2 * j) cp2) Pj W h1.1 h1.2 hsn hsn (HCD.out.2.1 sn hsn) h2.2.1 h3 (by rw [HL.out]; omega)).mono ?_
      rintro e w' ⟨g,cap,rfl,q1,q2,q3⟩
      rw[HL.out] at q1 ⊢
      exact⟨g,cap,rfl,h2.next q2 q1 q3,q2⟩
     have HSQ:=hid_of hS.out
     have HKS:Hid (wK.heap.size≤wr.heap.size):=by have h9:=hS.out.1.size; show _≤_; omega
     have HEB:Hid (∀ W,Calls Tryz.prog 177 #[.int .i64 (sn:Int)] W fun e w'=>e=.returned (.int .i64 ((bitsOf (sn:Int):Nat):Int))∧Below W.heap.size W w'):=fun W=>extra_below (sn:Int) W hb.1 hb.2
     generalize bitsOf (sn:Int)=bt at *
     have HNC:Hid (∀ W,Calls Tryz.prog 164 #[.int .i64 (sn:Int),.int .i64 (bt:Int),.int .i64 x] W fun e w'=>e=.returned (.agg #[.int .i64 (sn:Int),.int .i64 (bt:Int),.int .i64 x])∧Below W.heap.size W w'):=fun W=>newCoded_any (sn:Int) (bt:Int) x W
     clear hc hr htk hpw hS hg2 hPj
     go_wp2_with fail
     have hbx:=heap_alloc_new wr (.cells #[.int .i64 (sn:Int),.int .i64 x] 165)
     have hbY:=bstart wr (.cells #[.int .i64 (sn:Int),.int .i64 x] 165)
     have HLY:=hid_of (LpQ.called HSQ.out hbY)
     have HKY:=hid_of (And.intro (HKW.out.1.called hbY) (HKW.out.2.called hbY))
     have hPY:=(hbY.block pb hpwl).trans HPW.out
     have hKsY:wK.heap.size≤(wr.alloc (.cells #[.int .i64 (sn:Int),.int .i64 x] 165)).heap.size:=Nat.le_trans HKS.out hbY.size
     clear hbY HSQ HKW HPW HKS f0 f1
     generalize wr.alloc _=Y at *
     have hrg2:wr.heap.size≠g2:=by omega
     generalize wr.heap.size=rb at *
     have p0:Y.cell? ⟨pb,0,none⟩=some (.slice (some ⟨gth,0,none⟩) 19 cth):=(cell_of_block hPY 0).trans rfl
     have p1:Y.cell? ⟨pb,1,none⟩=some (.slice (some ⟨go,0,none⟩) 19 ko):=(cell_of_block hPY 1).trans rfl
     have b0:Y.cell? ⟨rb,0,none⟩=some (.int .i64 (sn:Int)):=(cell_of_block hbx 0).trans rfl
     have b1:Y.cell? ⟨rb,1,none⟩=some (.int .i64 x):=(cell_of_block hbx 1).trans rfl
     have hpY:=block_lt hPY
     have hrY:=block_lt hbx
     clear hPY hbx
     go_region_held3 (fun u=>u.cell? ⟨pb,0,none⟩=some (.slice (some ⟨gth,0,none⟩) 19 cth)∧u.cell? ⟨pb,1,none⟩=some (.slice (some ⟨go,0,none⟩) 19 ko)∧u.cell? ⟨rb,0,none⟩=some (.int .i64 (sn:Int))∧u.cell? ⟨rb,1,none⟩=some (.int .i64 x)) (first | go_keep | (refine⟨?_,?_,?_,?_⟩ <;> first | assumption | go_keep | (simp [*]; done))) (first | (go_at_call 177; refine (HEB.out _).mono ?_; rintro e u1 ⟨rfl,e1⟩; have d0:u1.cell? ⟨pb,0,none⟩=some (.slice (some ⟨gth,0,none⟩) 19 cth):=(e1.cell (p:=⟨pb,0,none⟩) hpY).trans p0; have d1:u1.cell? ⟨pb,1,none⟩=some (.slice (some ⟨go,0,none⟩) 19 ko):=(e1.cell (p:=⟨pb,1,none⟩) hpY).trans p1; have d2:u1.cell? ⟨rb,0,none⟩=some (.int .i64 (sn:Int)):=(e1.cell (p:=⟨rb,0,none⟩) hrY).trans b0; have d3:u1.cell? ⟨rb,1,none⟩=some (.int .i64 x):=(e1.cell (p:=⟨rb,1,none⟩) hrY).trans b1; have HL1:=hid_of ((HLY.out.called ((Below.refl _ _).drew)).called e1); have HK1:=hid_of (And.intro (Came.called (w:=Y.drew) (by exact HKY.out.1) e1) (Came.called (w:=Y.drew) (by exact HKY.out.2) e1)); have hp1:pb < u1.heap.size:=Nat.lt_of_lt_of_le hpY e1.size; have hr1:rb < u1.heap.size:=Nat.lt_of_lt_of_le hrY e1.size; have hs1:wK.heap.size≤u1.heap.size:=Nat.le_trans hKsY e1.size; clear e1) | (go_at_call 164; refine (HNC.out u1).mono ?_; rintro e u2 ⟨rfl,e2⟩; have n0:u2.cell? ⟨pb,0,none⟩=some (.slice (some ⟨gth,0,none⟩) 19 cth):=(e2.cell (p:=⟨pb,0,none⟩) hp1).trans d0; have n1:u2.cell? ⟨pb,1,none⟩=some (.slice (some ⟨go,0,none⟩) 19 ko):=(e2.cell (p:=⟨pb,1,none⟩) hp1).trans d1; have n2:u2.cell? ⟨rb,0,none⟩=some (.int .i64 (sn:Int)):=(e2.cell (p:=⟨rb,0,none⟩) hr1).trans d2; have n3:u2.cell? ⟨rb,1,none⟩=some (.int .i64 x):=(e2.cell (p:=⟨rb,1,none⟩) hr1).trans d3; have HL2:=hid_of (HL1.out.called e2); have HK2:=hid_of (And.intro (HK1.out.1.called e2) (HK1.out.2.called e2)); have hp2:pb < u2.heap.size:=Nat.lt_of_lt_of_le hp1 e2.size; have hr2:rb < u2.heap.size:=Nat.lt_of_lt_of_le hr1 e2.size; have hs2:wK.heap.size≤u2.heap.size:=Nat.le_trans hs1 e2.size; clear e2) | (go_at_call 127; refine (HWS.out u2 HK2.out HL2.out hs2).mono ?_; rintro e u3 ⟨g5,c5,rfl,HL3,gr3⟩; have m0:u3.cell? ⟨pb,0,none⟩=some (.slice (some ⟨gth,0,none⟩) 19 cth):=(gr3.cell_far ⟨pb,0,none⟩ hp2 (fun e=>hpg (Option.some.inj e))).trans n0; have m1:u3.cell? ⟨pb,1,none⟩=some (.slice (some ⟨go,0,none⟩) 19 ko):=(gr3.cell_far ⟨pb,1,none⟩ hp2 (fun e=>hpg (Option.some.inj e))).trans n1; have m2:u3.cell? ⟨rb,0,none⟩=some (.int .i64 (sn:Int)):=(gr3.cell_far ⟨rb,0,none⟩ hr2 (fun e=>hrg2 (Option.some.inj e))).trans n2; have m3:u3.cell? ⟨rb,1,none⟩=some (.int .i64 x):=(gr3.cell_far ⟨rb,1,none⟩ hr2 (fun e=>hrg2 (Option.some.inj e))).trans n3; have HL4:=hid_of HL3; clear HL3 gr3))
     all_goals
      go_wp2_with fail
      go_roundg (nR - (j+1))
      case measure=>omega
      case rel=>
       refine⟨j+1,g5,c5,by omega,Nat.le_refl _,by go_num,by rw [show 3+nT+2 * (j+1)=3+nT+2 * j+2 by omega],?_⟩
       show LpQ _ _ _ _ _ _ _
       rw[HPN.out,show 3+nT+2 * (j+1)=3+nT+2 * j+2 by omega]
       exact HL4.out
    ·obtain rfl:nR=j:=by omega
     have dl2:decide ((nR:Int) < (nR:Int))=false:=decide_eq_false (by omega)
     have hfull:R.take nR=R:=by rw [← HNR.out,List.take_length]
     rw[hfull] at hS
     have HEE:Hid (wr.ownsRow w.heap.size 115 3 (.slice (some ⟨g2,0,none⟩) (3+nT+2 * nR) cp2) (whd nA nB nT ++ toldTo R nT ++ runsP R R).length (pcells (whd nA nB nT ++ toldTo R nT ++ runsP R R))∧Below w.heap.size w wr):=⟨row_mono hS.out.2.1 hwK,HQK.out.2.2.2.grown hS.out.1 HQK.out.2.2.2.size (fun k e=>by cases e; omega)⟩
     clear hS hfull
     go_wp2_with fail
     go_ret
     exact⟨_,rfl,HEE.out.1,HEE.out.2⟩
theorem lengthParts_any (a1 a2:Option Addr) (k1 k2:Nat) (L:List Tok) (w:World) (h1:Came w a1 (sizeA L) (lenA L)) (h2:Came w a2 (sizeB L) (lenB L)) (hR:TokensRight L) (hG:OrderG w):
  Calls Tryz.prog 134 #[.slice a1 (sizeA L) k1,.slice a2 (sizeB L) k2] w fun e w'=>∃ v,e=.returned v∧w'.ownsRow w.heap.size 115 3 v (lensP L).length (pcells (lensP L))∧Below w.heap.size w w':=by
 have hA:=sizeA_bd L
 have hB:=sizeB_bd L
 have hT:=toldN_bd (runsW L)
 have hl:=runsW_length L
 have hsy:=rest_sym (fineC hR) _ 0 rfl
 exact lens_core a1 a2 k1 k2 (sizeA L) (sizeB L) (toldN (runsW L)) (runsW L).length (runsW L) (fC L) w hA.1 hA.2 hB.1 hB.2 hT.1 hT.2 rfl hl hsy hG (third_coded hl)
  (fun t=>concat_came a1 a2 (sizeA L) k1 (sizeB L) k2 (lenA L) (lenB L) w t h1 h2 (by omega) (by omega) (by omega) (by omega))
  (fun W a c hC=>runsOf_woven hR W a c hC) (fun W a c hD=>thirdLengths_any a c (runsW L) W hD hl hsy) (fun W a c hD hG=>toldLengths_any a c (runsW L) W hD hG)
end
section
open Go.RowKit Go.Joins PartMath
set_option maxRecDepth 100000 in
set_option maxHeartbeats 1600000 in
theorem grow_parts (n:Nat) (w:World) (h1:1≤n) (h2:n≤200000):
  Calls Tryz.prog 173 #[.slice none 0 0,.int .i64 (n:Int)] w fun e w'=>∃ g c,e=.returned (.slice (some ⟨g,0,none⟩) 0 c)∧w'.ownsRow w.heap.size 115 3 (.slice (some ⟨g,0,none⟩) 0 c) 0 []∧Below w.heap.size w w':=by
 obtain⟨i0,hi0,hz0,hz1,hz2⟩:=info_parts info_part9
 have hap:=Lib.run_append_nil_zeros (P:=Tryz.prog) w 118 3 118 115 i0 (.agg #[.int .i64 0,.int .i64 0,.bool false]) .i64 .i64 Tryz.underlying118 Tryz.underlying3 hi0 hz0 n (by omega) (by omega) (by omega) (by rw [hz2]; omega)
 have hge:=grownCap_ge w n 0 115
 have hle:=grownCap_le_maxLen w n 0 115 (by unfold maxLen; omega)
 have HO:Hid ((w.drew.alloc (.cells (Builtin.zeroCells (Value.agg #[.int .i64 0,.int .i64 0,.bool false]).cells n ++ Builtin.zeroCells (Value.agg #[.int .i64 0,.int .i64 0,.bool false]).cells (grownCap w n 0 115 - n)) 115)).ownsRow w.heap.size 115 3 (.slice (some ⟨w.heap.size,0,none⟩) 0 (grownCap w n 0 115)) 0 []∧Below w.heap.size w (w.drew.alloc (.cells (Builtin.zeroCells (Value.agg #[.int .i64 0,.int .i64 0,.bool false]).cells n ++ Builtin.zeroCells (Value.agg #[.int .i64 0,.int .i64 0,.bool false]).cells (grownCap w n 0 115 - n)) 115))):=by
  refine⟨⟨rfl,.inr ⟨w.heap.size,grownCap w n 0 115,_,rfl,Nat.le_refl _,heap_alloc_new w.drew _,Nat.zero_le _,hle,?_,by simp⟩⟩,(Below.refl _ _).drew.alloc (Nat.le_refl _) _⟩
  simp[Builtin.zeroCells,Value.cells]
  omega
 generalize w.drew.alloc _=W at hap HO
 generalize grownCap w n 0 115=cp at *
 have d1:decide ((n:Int) < 0)=false:=decide_eq_false (by omega)
 have d2:decide ((0:Int) < (n:Int))=true:=decide_eq_true (by omega)
 have d3:decide (0 < n)=true:=decide_eq_true (by omega)
 clear hi0 hz0 hz1 hz2
 go_enter Tryz.func173,Tryz.ntmps173
 go_wp2_with (at_builtin; refine wpList_by_run rfl _ _ _ _ rfl rfl rfl hap ?_)
 go_wp2_with fail
 go_ret
 exact⟨w.heap.size,cp,rfl,HO.out⟩
def catP (Ls:Nat→List Part):Nat→List Part
 | 0=>[]
 | i+1=>catP Ls i ++ Ls i
theorem catP_small {Ls:Nat→List Part} (h:∀ i,i < 3→(Ls i).length≤60000):∀ i,i≤3→(catP Ls i).length≤60000 * i
 | 0,_=>by simp [catP]
 | i+1,hi=>by
  have h1:=catP_small h i (by omega)
  have h2:=h i (by omega)
  show (catP Ls i ++ Ls i).length≤_
  rw[List.length_append]
  omega
structure ThreeP (w:World) (sb:Nat) (A:Nat→Addr) (C:Nat→Nat) (Ls:Nat→List Part):Prop where
 lt:sb < w.heap.size
 cell:∀ i,i < 3→w.cell? ⟨sb,i,none⟩=some (.slice (some (A i)) (Ls i).length (C i))
 row:∀ i,i < 3→PCame w (some (A i)) (Ls i)
 small:∀ i,i < 3→(Ls i).length≤60000
theorem ThreeP.called {w w':World} {sb:Nat} {A:Nat→Addr} {C:Nat→Nat} {Ls:Nat→List Part} (h:ThreeP w sb A C Ls) (hb:Below w.heap.size w w'):ThreeP w' sb A C Ls where
 lt:=Nat.lt_of_lt_of_le h.lt hb.size
 cell:=fun i hi=>(hb.cell (p:=⟨sb,i,Option.none⟩) h.lt).trans (h.cell i hi)
 row:=fun i hi=>(h.row i hi).called hb
 small:=h.small
set_option maxRecDepth 100000 in
set_option maxHeartbeats 1600000 in
theorem concat_parts (sb c:Nat) (A:Nat→Addr) (C:Nat→Nat) (Ls:Nat→List Part) (w:World) (h:ThreeP w sb A C Ls) (h1:1≤(catP Ls 3).length):
  Calls Tryz.prog 133 #[.slice (some ⟨sb,0,none⟩) 3 c] w fun e w'=>∃ g c',e=.returned (.slice (some ⟨g,0,none⟩) (catP Ls 3).length c')∧w'.ownsRow w.heap.size 115 3 (.slice (some ⟨g,0,none⟩) (catP Ls 3).length c') (catP Ls 3).length (pcells (catP Ls 3))∧Below w.heap.size w w':=by
 have HF:=hid_of h
 have hsm:=catP_small h.small
 clear h
 go_enter Tryz.func133,Tryz.ntmps133
 go_wp2_with fail
 go_loopg [3,11] 4 (fun gk v u w'=>∃ i:Nat,i≤3∧v=.int .i64 ((catP Ls i).length:Int)∧u=.int .i64 (i:Int)∧3 - i≤gk∧Hid (w'=w))
 case atStart=>exact⟨0,by omega,rfl,rfl,by omega,rfl⟩
 case round=>
  obtain⟨i,hi,rfl,rfl,hgk,HE⟩:=hrel
  have hE:w=wr:=HE.out.symm
  subst hE
  clear HE
  by_cases hlt:i < 3
  ·have dl:decide ((i:Int) < 3)=true:=decide_eq_true (by omega)
   have dl2:decide (i < 3)=true:=decide_eq_true hlt
   have hc:=HF.out.cell i hlt
   have hl:=HF.out.lt
   have hs1:=hsm i (by omega)
   have hs2:=HF.out.small i hlt
   have HNX:Hid ((catP Ls (i+1)).length=(catP Ls i).length+(Ls i).length):=by
    show (catP Ls i ++ Ls i).length=_
    rw[List.length_append]
   have x0:(0:Int)≤(i:Int):=by omega
   have x1:(i:Int) < 3:=by omega
   generalize (catP Ls i).length=n1 at *
   generalize (Ls i).length=n2 at *
   have dn:decide ((n1:Int)+(n2:Int) < 0)=false:=decide_eq_false (by omega)
   go_wp2_with fail
   go_roundg (3 - (i+1))
   case measure=>omega
   case rel=>exact⟨i+1,by omega,by rw [HNX.out]; go_num,by go_num,Nat.le_refl _,rfl⟩
  ·obtain rfl:i=3:=by omega
   have dl:decide (((3:Nat):Int) < 3)=false:=by decide
   have hgr:=grow_parts (catP Ls 3).length w h1 (by have:=hsm 3 (by omega); omega)
   go_wp2_with fail
   refine hgr.mono ?_
   clear hgr
   rintro e w1 ⟨g,c1,rfl,hnr,hb⟩
   have H0:Hid (w1.ownsRow w.heap.size 115 3 (.slice (some ⟨g,0,none⟩) 0 c1) (catP Ls 0).length (pcells (catP Ls 0))∧Below w.heap.size w w1):=⟨hnr,hb⟩
   clear hnr hb
   go_wp2_with fail
   go_loopg [6,27] 4 (fun gk v u w'=>∃ (i g:Nat) (c:Nat),i≤3∧v=.slice (some ⟨g,0,none⟩) (catP Ls i).length c∧u=.int .i64 (i:Int)∧3 - i≤gk∧Hid (w'.ownsRow w.heap.size 115 3 (.slice (some ⟨g,0,none⟩) (catP Ls i).length c) (catP Ls i).length (pcells (catP Ls i))∧Below w.heap.size w w'))
   case atStart=>exact⟨0,_,_,by omega,rfl,rfl,by omega,H0⟩
   case round=>
    clear H0
    obtain⟨i,g,cc,hi,rfl,rfl,hgk,hR⟩:=hrel
    by_cases hlt:i < 3
    ·have dl:decide ((i:Int) < 3)=true:=decide_eq_true (by omega)
     have dl2:decide (i < 3)=true:=decide_eq_true hlt
     have hF:=HF.out.called hR.out.2
     have hc:=hF.cell i hlt
     have hl:=hF.lt
     have hs1:=hsm i (by omega)
     have hs2:=hF.small i hlt
     have x0:(0:Int)≤(i:Int):=by omega
     have x1:(i:Int) < 3:=by omega
     have HRW:=hid_of (hF.row i hlt).news
     have hsz:=hR.out.2.size
     clear hF
     go_wp2_with (at_builtin; refine parts_append Tryz.underlying118 info_part9 (S:=w.heap.size) (xs:=catP Ls i) (ys:=Ls i) rfl _ _ rfl rfl hR.out.1 (A i) (Ls i).length (C i) rfl rfl HRW.out (by omega) hsz ?_)
     intro v2 w2 y1 y2 y3
     have y4:w2.ownsRow w.heap.size 115 3 v2 (catP Ls (i+1)).length (pcells (catP Ls (i+1))):=by
      show w2.ownsRow _ _ _ _ (catP Ls i ++ Ls i).length (pcells (catP Ls i ++ Ls i))
      rw[List.length_append]
      exact y1
     obtain⟨g2,c2,hv2⟩:∃ g2 c2,v2=.slice (some ⟨g2,0,none⟩) (catP Ls (i+1)).length c2:=by
      rcases y4.2 with ⟨rfl,h0⟩ | ⟨g,cap,cur,rfl,_⟩
      ·rcases y3 with y3 | y3
       ·cases y3
       ·cases y3
      ·exact⟨g,cap,rfl⟩
     subst hv2
     have HN:Hid (w2.ownsRow w.heap.size 115 3 (.slice (some ⟨g2,0,none⟩) (catP Ls (i+1)).length c2) (catP Ls (i+1)).length (pcells (catP Ls (i+1)))∧Below w.heap.size w w2):=⟨y4,hR.out.2.grown y2 hsz (fun k e=>(World.ownsRow.lt hR.out.1 k e).1)⟩
     clear y4
     clear y1 y2 y3 hR HRW hc
     go_wp2_with fail
     go_roundg (3 - (i+1))
     case measure=>omega
     case rel=>exact⟨i+1,g2,c2,by omega,rfl,by go_num,Nat.le_refl _,HN⟩
    ·obtain rfl:i=3:=by omega
     have dl:decide (((3:Nat):Int) < 3)=false:=by decide
     have HE:=hid_of hR.out
     clear hR
     go_wp2_with fail
     go_ret
     exact⟨g,cc,rfl,HE.out⟩
end
end Go.Proofs.YtklpiihnbokkkaaGreatDoor
