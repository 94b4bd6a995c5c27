/-
  Texts of the proof, put together.
-/
import Derived.Test.YtklpiihnbokkkaaGreatDoorZk45
namespace Go.Proofs.YtklpiihnbokkkaaGreatDoor
open Go.RowKit Go.Joins OutMath InfMath TokMath CodeMath PackageMath RunsMath TrimMath TokLenMath BlockMath PartMath BodyMath WovenMath
def WvA (w X:World) (s:ByteArray) (c:Int) (a1 a2:Option Addr) (nA nB:Nat) (fA fB:Nat→Int):Prop:=Below w.heap.size w X∧X.heap[w.heap.size]?=some (.cells #[.string s,.int .i64 c] 43 (0,0))∧X.heap[w.heap.size+1]?=some (.cells #[.string ⟨#[]⟩,.int .i64 0] 43 (0,0))∧Came X a1 nA fA∧Came X a2 nB fB
theorem WvA.called {w X Y:World} {s:ByteArray} {c:Int} {a1 a2:Option Addr} {nA nB:Nat} {fA fB:Nat→Int} (h:WvA w X s c a1 a2 nA nB fA fB) (hb:Below X.heap.size X Y):WvA w Y s c a1 a2 nA nB fA fB:=
 ⟨bnext h.1 hb,(hb.block _ (block_lt h.2.1)).trans h.2.1,(hb.block _ (block_lt h.2.2.1)).trans h.2.2.1,h.2.2.2.1.called hb,h.2.2.2.2.called hb⟩
def WvC (wM X:World) (R:List (Int×Int)) (j:Nat):Prop:=IOwn X wM.heap.size wM.heap.size 19 19 (cntR (R.take j))∧Below wM.heap.size wM X
theorem WvB_set {w X:World} {s:ByteArray} {c:Int} {a1 a2 ar:Option Addr} {nA nB nR gth:Nat} {fA fB f:Nat→Int} {F:Nat→Int×Int} (h:(WvA w X s c a1 a2 nA nB fA fB∧DCame X ar nR F)∧IOwn X gth gth 19 19 f) (hold:∃ Y:World,Below gth Y X∧gth=Y.heap.size∧WvA w Y s c a1 a2 nA nB fA fB∧DCame Y ar nR F) (i:Nat) (hi:i < 19) (x:Int):(WvA w (X.setCell ⟨gth,i,none⟩ (.int .i64 x)) s c a1 a2 nA nB fA fB∧DCame (X.setCell ⟨gth,i,none⟩ (.int .i64 x)) ar nR F)∧IOwn (X.setCell ⟨gth,i,none⟩ (.int .i64 x)) gth gth 19 19 (upd f i x):=by
 obtain⟨Y,hB,hg,h1,h2⟩:=hold
 have hb:Below Y.heap.size Y (X.setCell ⟨gth,i,none⟩ (.int .i64 x)):=by
  rw[← hg]
  exact Below.setCell (p:=⟨gth,i,none⟩) hB (Nat.le_refl _) _
 exact⟨⟨h1.called hb,h2.called hb⟩,h.2.set i hi x⟩
theorem take_run9 {R:List (Int×Int)} {j:Nat} (h:j < R.length):R.take (j+1)=R.take j ++ [R.getD j (0,0)]:=by
 rw[List.take_add_one,List.getElem?_eq_getElem h,List.getD_eq_getElem?_getD,List.getElem?_eq_getElem h]
 rfl
theorem specRuns_woven {L:List Tok} (h:TokensRight L) (W:World) (a:Option Addr) (c:Nat) (hC:Came W a (sizeA L+sizeB L) (fC L)):
  Calls Tryz.prog 111 #[.slice a (sizeA L+sizeB L) c] W fun e w'=>∃ (a':Option Addr) (cap':Nat),e=.returned (.tuple #[.slice a' (runsW L).length cap',.bool true])∧DCame w' a' (runsW L).length (fun j=>(runsW L).getD j (0,0))∧Below W.heap.size W w':=by
 have hf:=fineC h
 have hn:=nC_le L
 refine (specRuns_good a (sizeA L+sizeB L) c (fC L) W hC ⟨by unfold nC at hn; omega,fun i hi=>hf i hi⟩).mono ?_
 rintro e w' ⟨v,rfl,ho,hB⟩
 obtain⟨a',c',rfl,hd⟩:=dsl_of_own ho rfl
 exact⟨a',c',rfl,hd.came,hB⟩
set_option maxRecDepth 100000 in
set_option maxHeartbeats 12800000 in
theorem woven_core (s:ByteArray) (c:Int) (a:Option Addr) (cp LL nA nB nT nR nP:Nat) (L:List Tok) (last:Bool) (R:List (Int×Int)) (fA fB fc:Nat→Int) (PB:List Part) (st:Option (ByteArray×Nat)) (w:World)
  (bA1:257≤nA) (bA2:nA≤286) (bB1:1≤nB) (bB2:nB≤30) (bT1:4≤nT) (bT2:nT≤19) (hnT:nT=toldN R) (hnR:R.length=nR) (bR:nR≤316) (hnP:PB.length=nP) (bP1:1≤nP) (bP2:nP≤100000)
  (hsy:∀ r∈R,0≤r.1∧r.1≤18) (hcd:Coded (third R) 19) (hfc:fc=fun i=>if i < nA then fA i else fB (i - nA)) (hRt:∀ p∈whd nA nB nT ++ toldTo R nT ++ runsP R R ++ PB,Right p) (hC:TCame w a LL (fun j=>L.getD j (0,0,0)))
  (hTL:∀ W,TCame W a LL (fun j=>L.getD j (0,0,0))→Calls Tryz.prog 110 #[.slice a LL cp] W fun e w'=>∃ a1 c1 a2 c2,e=.returned (.tuple #[.slice a1 nA c1,.slice a2 nB c2,.bool true])∧Came w' a1 nA fA∧Came w' a2 nB fB∧Below W.heap.size W w')
  (hRU:∀ W a c,Came W a (nA+nB) fc→Calls Tryz.prog 111 #[.slice a (nA+nB) c] W fun e w'=>∃ (a':Option Addr) (cap':Nat),e=.returned (.tuple #[.slice a' nR cap',.bool true])∧DCame w' a' nR (fun j=>R.getD j (0,0))∧Below W.heap.size W w')
  (hH:∀ W,Calls Tryz.prog 62 #[.agg #[.string s,.int .i64 c],.int .i64 2,.bool last] W fun e w'=>∃ s' c',e=.returned (.agg #[.string s',.int .i64 c',.bool st.isNone])∧(∀ o,st=some o→s'=o.1∧c'=(o.2:Int)∧outB o.1 o.2=true)∧Below W.heap.size W w')
  (hBO:∀ W a1 a2 k1 k2,TCame W a LL (fun j=>L.getD j (0,0,0))→Came W a1 nA fA→Came W a2 nB fB→Calls Tryz.prog 70 #[.slice a LL cp,.slice a1 nA k1,.slice a2 nB k2] W fun e w'=>∃ g k,e=.returned (.slice (some ⟨g,0,none⟩) nP k)∧PCame w' (some ⟨g,0,none⟩) PB∧Below W.heap.size W w'):
  Calls Tryz.prog 71 #[.agg #[.string s,.int .i64 c],.slice a LL cp,.bool last] w fun e w'=>e=.returned (blkAns (st.bind fun o=>bitsOut o (partBits (whd nA nB nT ++ toldTo R nT ++ runsP R R ++ PB))))∧Below w.heap.size w w':=by
 have hW0:Below w.heap.size w ((w.alloc (.cells #[.string s,.int .i64 c] 43)).alloc (.cells #[.string ⟨#[]⟩,.int .i64 0] 43)):=bal (bstart _ _) _
 have hR0:=heap_second2 w (.cells #[.string s,.int .i64 c] 43) (.cells #[.string ⟨#[]⟩,.int .i64 0] 43)
 have hB0:=heap_two w (.cells #[.string s,.int .i64 c] 43) (.cells #[.string ⟨#[]⟩,.int .i64 0] 43)
 have HX:Hid (Below w.heap.size w ((w.alloc (.cells #[.string s,.int .i64 c] 43)).alloc (.cells #[.string ⟨#[]⟩,.int .i64 0] 43))∧_∧_):=⟨hW0,hB0,hR0⟩
 have HC:=hid_of hC
 have HSY:=hid_of hsy
 have HNT:=hid_of hnT
 have HNR:=hid_of hnR
 have HNP:=hid_of hnP
 have HCD:=hid_of hcd
 have HFC:=hid_of hfc
 have HRT:=hid_of hRt
 have HTL:=hid_of hTL
 have HRU:=hid_of hRU
 have HHD:=hid_of hH
 have HBO:=hid_of hBO
 clear hW0 hR0 hB0 hC hsy hnT hnR hnP hcd hfc hRt hTL hRU hH hBO
 go_enter Tryz.func71,Tryz.ntmps71
 go_wp2_with fail
 generalize (w.alloc _).alloc _=X at HX ⊢
 refine (HTL.out X (HC.out.called HX.out.1)).mono ?_
 rintro e w1 ⟨a1,k1,a2,k2,rfl,q1,q2,b1⟩
 have H1:Hid (WvA w w1 s c a1 a2 nA nB fA fB):=⟨bnext HX.out.1 b1,(b1.block _ (block_lt HX.out.2.1)).trans HX.out.2.1,(b1.block _ (block_lt HX.out.2.2)).trans HX.out.2.2,q1,q2⟩
 clear q1 q2 b1 HX HTL
 have hn1:a1=none→nA=0∧k1=0:=fun e=>by
  rcases H1.out.2.2.2.1 with q | ⟨g,off,e',_⟩
  ·omega
  ·rw[e] at e'
   cases e'
 have hn2:a2=none→nB=0∧k2=0:=fun e=>by
  rcases H1.out.2.2.2.2 with q | ⟨g,off,e',_⟩
  ·omega
  ·rw[e] at e'
   cases e'
 have HN12:=hid_of (And.intro hn1 hn2)
 clear hn1 hn2
 go_wp2_with (at_builtin; refine nums_append (S:=w1.heap.size) (xs:=[]) (ys:=firstJ fA nA) rfl _ _ rfl rfl (NumRow.empty w1 w1.heap.size (Nat.le_refl _)) a1 nA k1 rfl (firstJ_length _ _) (fun ad e=>came_ivals (H1.out.called (bstart _ _)).2.2.2.1 e) HN12.out.1 (by rw [firstJ_length]; simp only [List.length_nil]; omega) (by simp) ?_)
 intro v2 w2 y1 y2
 have HY1:Hid (NumRow w2 w1.heap.size v2 (firstJ fA nA)):=hid_of (by simpa using y1)
 have H2:Hid (WvA w w2 s c a1 a2 nA nB fA fB∧Below w1.heap.size w1 w2):=by
  have hb:Below w1.heap.size w1 w2:=(bstart w1 _).grown y2 (by simp) (fun k e=>by cases e; exact Nat.le_refl _)
  exact⟨H1.out.called hb,hb⟩
 clear y1 y2
 go_wp2_with (at_builtin; refine nums_append (S:=w1.heap.size) (xs:=firstJ fA nA) (ys:=firstJ fB nB) rfl _ _ rfl rfl HY1.out a2 nB k2 rfl (firstJ_length _ _) (fun ad e=>came_ivals H2.out.1.2.2.2.2 e) HN12.out.2 (by rw [firstJ_length,firstJ_length]; omega) H2.out.2.size ?_)
 intro v3 w3 y1 y2
 obtain⟨a3,c3,hv3,_⟩:=y1.form
 rw[List.length_append,firstJ_length,firstJ_length] at hv3
 subst hv3
 have H3:Hid (WvA w w3 s c a1 a2 nA nB fA fB∧Came w3 a3 (nA+nB) fc):=by
  have hb:Below w1.heap.size w1 w3:=H2.out.2.grown y2 H2.out.2.size (fun k e=>(World.ownsRow.lt HY1.out k e).1)
  refine⟨H1.out.called hb,?_⟩
  rw[HFC.out]
  exact came_cat y1
 clear y1 y2 HY1 H2 H1 HN12 HFC
 go_wp2_with fail
 refine (HRU.out w3 a3 c3 H3.out.2).mono ?_
 rintro e wM ⟨ar,cr,rfl,d4,b4⟩
 have HM:=hid_of (And.intro (H3.out.1.called b4) d4)
 clear d4 b4 H3 HRU
 have hm:(Instr.makeSlice 25 (.int .i64 19) (.int .i64 19)).run Tryz.prog wM=_:=make_ints wM 19 (by omega)
 have H0:Hid (WvC wM (wM.alloc (.cells (madeCells #[Value.int .i64 0] 19) 3)) R 0):=⟨(IOwn.made wM 19 (by unfold maxLen; omega) (Nat.le_refl _)).congr fun i _=>rfl,bstart _ _⟩
 go_wp2_with fail
 clear hm
 generalize wM.alloc _=X0 at H0 ⊢
 go_loopg [14] (nR+1) (fun gk i w'=>∃ (j:Nat),j≤nR∧nR - j≤gk∧i=.int .i64 j∧Hid (WvC wM w' R j))
 case atStart=>exact⟨0,Nat.zero_le _,by omega,rfl,H0⟩
 case round=>
  clear H0
  obtain⟨j,hj,hgk,rfl,hS⟩:=hrel
  by_cases hlt:j < nR
  ·have dl:decide ((j:Int) < (nR:Int))=true:=decide_eq_true (by omega)
   have hrl:j < R.length:=by rw [HNR.out]; exact hlt
   rcases HM.out.2.called hS.out.2 with q | ⟨rg,off,rfl,hrg,hc⟩
   ·omega
   obtain⟨f0,f1⟩:=hc j hlt
   simp only [] at f0 f1
   have hb:=HSY.out (R.getD j (0,0)) (by rw [List.getD_eq_getElem?_getD,List.getElem?_eq_getElem hrl]; exact List.getElem_mem hrl)
   have htk:=take_run9 hrl
   have hle:=cntR_bd (R.take j)
   obtain⟨⟨s9,x⟩,hr⟩:∃ r,r=R.getD j (0,0):=⟨_,rfl⟩
   rw[← hr] at f0 f1 hb htk
   simp only [] at f0 f1 hb
   obtain⟨sn,rfl⟩:=Int.eq_ofNat_of_zero_le hb.1
   have hsn:sn < 19:=by omega
   have c1:=hS.out.1.cell sn hsn
   have k1':=hS.out.1.free sn hsn
   have l1:=hS.out.1.lt
   have b1:=hle sn
   rw[List.length_take] at b1
   have HN:Hid (WvC wM (wr.setCell ⟨wM.heap.size,sn,none⟩ (.int .i64 (cntR (R.take j) sn+1))) R (j+1)):=by
    refine⟨(hS.out.1.set sn hsn _).congr fun i _=>?_,Below.setCell (p:=⟨wM.heap.size,sn,none⟩) hS.out.2 (Nat.le_refl _) _⟩
    rw[htk]
    exact cntR_snoc (R.take j) ((sn:Int),x) i
   obtain⟨V,hV⟩:∃ V,V=cntR (R.take j) sn:=⟨_,rfl⟩
   rw[← hV] at c1 b1 HN
   clear hV hc hr htk hle hS
   go_wp2_with fail
   go_region
   all_goals
    go_wp2_with fail
    go_roundg (nR - (j+1))
    case measure=>omega
    case rel=>exact⟨j+1,by omega,Nat.le_refl _,by go_num,by first | exact HN | exact⟨HN.out.1.drew,HN.out.2.drew⟩⟩
  ·obtain rfl:nR=j:=by omega
   have dl:decide ((nR:Int) < (nR:Int))=false:=decide_eq_false (by omega)
   have hfull:R.take nR=R:=by rw [← HNR.out,List.take_length]
   unfold WvC at hS
   rw[hfull] at hS
   have hl:R.length≤316:=by rw [HNR.out]; exact bR
   have HLIM:=hid_of (limR hl)
   have HL0:=hid_of hl
   clear hfull hl
   go_wp2_with fail
   refine (specLimit_good _ 19 19 (cntR R) 7 wr hS.out.1.sl.came HLIM.out).mono ?_
   rintro e wL ⟨rfl,oL,bL⟩
   have HL:Hid ((WvA w wL s c a1 a2 nA nB fA fB∧DCame wL ar nR (fun j=>R.getD j (0,0)))∧IOwn wL wr.heap.size wr.heap.size 19 19 (th0 R)):=⟨⟨(HM.out.1.called hS.out.2).called bL,(HM.out.2.called hS.out.2).called bL⟩,oL⟩
   have HOLD:Hid (∃ Y:World,Below wr.heap.size Y wL∧wr.heap.size=Y.heap.size∧WvA w Y s c a1 a2 nA nB fA fB∧DCame Y ar nR (fun j=>R.getD j (0,0))):=⟨wr,bL,rfl,HM.out.1.called hS.out.2,HM.out.2.called hS.out.2⟩
   clear oL bL hS HLIM HM
   generalize wr.heap.size=gth at HL HOLD ⊢
   go_wp2_with fail
   refine (specKind (some ⟨gth,0,none⟩) 19 19 (th0 R) wL HL.out.2.sl.came (by omega)).mono ?_
   rintro e w2 ⟨k,rfl,hk,rfl⟩
   have HKK:Hid (k=kindOf (th0 R) 19):=by
    rcases hk with ⟨_,h⟩ | ⟨_,_,h⟩
    ·exact absurd ⟨by omega,fun i hi=>by have:=th0_ok HL0.out i hi; omega⟩ h
    ·exact h
   clear hk
   go_upto_if 74 with fail
   go_cut [15] from 75 to 82 (fun v wx=>v=.slice (some ⟨gth,0,none⟩) 19 19∧Hid ((WvA w wx s c a1 a2 nA nB fA fB∧DCame wx ar nR (fun j=>R.getD j (0,0)))∧IOwn wx gth gth 19 19 (third R)))
   case first=>
    have c0:=HL.out.2.cell 0 (by omega)
    have c1:=HL.out.2.cell 1 (by omega)
    have k0:=HL.out.2.free 0 (by omega)
    have k1':=HL.out.2.free 1 (by omega)
    have l2:=HL.out.2.lt
    have t0:=th0_ok HL0.out 0 (by omega)
    by_cases h3:kindOf (th0 R) 19=3
    ·obtain rfl:k=3:=HKK.out.trans h3
     by_cases h0:th0 R 0=0
     ·have HE:Hid (third R=upd (th0 R) 0 1):=by
       show third R=_
       unfold third
       rw[if_pos h3,if_pos h0]
      rw[h0] at c0
      have HF:=hid_of (WvB_set HL.out HOLD.out 0 (by omega) 1)
      clear h3 h0 t0 HKK
      go_wp2_with fail
      go_meet
      case rel=>exact⟨rfl,by rw [HE.out]; exact HF.out⟩
     ·have HE:Hid (third R=upd (th0 R) 1 1):=by
       show third R=_
       unfold third
       rw[if_pos h3,if_neg h0]
      have dp:(th0 R 0 == 0)=false:=by simp [h0]
      have HF:=hid_of (WvB_set HL.out HOLD.out 1 (by omega) 1)
      generalize th0 R 0=V0 at c0 dp h0 t0
      clear h3 HKK
      go_wp2_with fail
      go_meet
      case rel=>exact⟨rfl,by rw [HE.out]; exact HF.out⟩
    ·have HE:Hid (third R=th0 R):=by
      show third R=_
      unfold third
      rw[if_neg h3]
     have dk:(k == 3)=false:=by rw [HKK.out]; simp [h3]
     clear h3 t0 HKK
     go_wp2_with fail
     go_meet
     case rel=>exact⟨rfl,by rw [HE.out]; exact HL.out⟩
   case rest=>
    clear HL HKK HOLD
    obtain⟨rfl,HB⟩:=hcut
    have H0:Hid (NumRow (wc.alloc (.cells #[] 3)) wc.heap.size (.slice (some ⟨wc.heap.size,0,none⟩) 0 0) (firstJ (toldF R) 0)∧Below wc.heap.size wc (wc.alloc (.cells #[] 3))):=⟨NumRow.empty wc _ (Nat.le_refl _),bstart _ _⟩
    go_wp2_with fail
    generalize wc.alloc _=X1 at H0 ⊢
    go_loopg [17,18] 20 (fun gk v i w'=>∃ (j:Nat) (av:Option Addr) (cv:Nat),j≤19∧19 - j≤gk∧i=.int .i64 j∧v=.slice av j cv∧Hid (NumRow w' wc.heap.size (.slice av j cv) (firstJ (toldF R) j)∧Below wc.heap.size wc w'))
    case atStart=>exact⟨0,_,_,Nat.zero_le _,by omega,rfl,rfl,H0⟩
    case round=>
     clear H0
     obtain⟨j,av,cv,hj,hgk,rfl,rfl,hS⟩:=hrel
     by_cases hlt:j < 19
     ·have dl:decide ((j:Int) < 19)=true:=decide_eq_true (by omega)
      have ho:=order_lt j
      have hNX:=firstJ_next (toldF R) j
      have hV:third R (orderL.getD j 0)=toldF R j:=rfl
      have HV:=hid_of hV
      have HNX:=hid_of hNX
      clear hNX hV
      go_wp2_with fail
      refine (specOrder wr).mono ?_
      rintro e wo ⟨rfl,hlo,bo,oc⟩
      have oc1:=oc j hlt
      have hBo:Below wc.heap.size wc wo:=bnext (bnext (Below.refl _ _) hS.out.2) bo
      have t1:=(HB.out.2.called hBo).cell (orderL.getD j 0) ho
      have t2:=(HB.out.2.called hBo).lt
      rw[HV.out] at t1
      have HSo:Hid (NumRow wo wc.heap.size (.slice av j cv) (firstJ (toldF R) j)∧Below wc.heap.size wc wo):=⟨hS.out.1.called bo,hBo⟩
      generalize toldF R j=V at t1 HNX
      generalize orderL.getD j 0=od at ho oc1 t1
      clear oc bo hBo hS HV
      go_wp2_with (at_builtin; refine nums_append1 (S:=wc.heap.size) (xs:=firstJ (toldF R) j) rfl _ _ rfl rfl (HSo.out.1.called (bstart _ _)) wo.heap.size 1 V rfl ((cell_of_block (heap_alloc_new wo (.cells #[.int .i64 V] 3)) 0).trans rfl) (by rw [firstJ_length]; omega) (by have:=HSo.out.2.size; simp; omega) ?_)
      intro v5 w5 y1 y2 y3
      have y4:NumRow w5 wc.heap.size v5 (firstJ (toldF R) (j+1)):=by rw [HNX.out]; exact y1
      have hB5:Below wc.heap.size wc w5:=(bnext (bnext (Below.refl _ _) HSo.out.2) (bstart wo (.cells #[.int .i64 V] 3))).grown y2 (by have:=HSo.out.2.size; simp; omega) (fun k e=>(World.ownsRow.lt HSo.out.1 k e).1)
      obtain⟨a5,c5,hv5,_⟩:=y4.form
      rw[firstJ_length] at hv5
      subst hv5
      have HN:Hid (NumRow w5 wc.heap.size (.slice a5 (j+1) c5) (firstJ (toldF R) (j+1))∧Below wc.heap.size wc w5):=⟨y4,hB5⟩
      clear y1 y2 y3 y4 hB5
      go_wp2_with fail
      go_roundg (19 - (j+1))
      case measure=>omega
      case rel=>exact⟨j+1,a5,c5,by omega,Nat.le_refl _,by go_num,rfl,HN⟩
     ·obtain rfl:j=19:=by omega
      have dl:decide (((19:Nat):Int) < 19)=false:=by decide
      obtain⟨a6,c6,hv6,hn6,hc6,hcm6,_⟩:=hS.out.1.form
      rw[firstJ_length] at hv6 hc6
      cases hv6
      obtain⟨gt,ot,rfl,hgt,hct⟩:∃ gt ot,av=some ⟨gt,ot,none⟩∧gt < wr.heap.size∧∀ i,i < 19→wr.cell? ⟨gt,ot+i,none⟩=some (.int .i64 (toldF R i)):=by
       rcases hcm6 with q | ⟨g,off,e,hg,hcc⟩
       ·rw[firstJ_length] at q
        omega
       ·refine⟨g,off,e,hg,fun i hi=>?_⟩
        rw[hcc i (by rw [firstJ_length]; exact hi)]
        show some (Value.int .i64 ((firstJ (toldF R) 19).getD i 0))=_
        rw[firstJ_getD _ hi]
      have HCT:Hid (Came wr (some ⟨gt,ot,none⟩) 19 (toldF R)):=.inr ⟨gt,ot,rfl,hgt,hct⟩
      have htr:=specTrim (some ⟨gt,ot,none⟩) 19 cv 4 (toldF R) wr HCT.out (by omega) (by omega) hc6 (by omega)
      rw[show trimN (toldF R) 4 19=nT from HNT.out.symm] at htr
      have HB1:Hid ((WvA w wr s c a1 a2 nA nB fA fB∧DCame wr ar nR (fun j=>R.getD j (0,0)))∧IOwn wr gth gth 19 19 (third R)):=⟨⟨HB.out.1.1.called hS.out.2,HB.out.1.2.called hS.out.2⟩,HB.out.2.called hS.out.2⟩
      clear hS hcm6 hct hn6 HB
      go_wp2_with fail
      refine htr.mono ?_
      rintro e w7 ⟨rfl,rfl⟩
      clear htr
      have x0:=(cell_of_block HB1.out.1.1.2.1 0).trans (show _=some (Value.string s) from rfl)
      have x1:=(cell_of_block HB1.out.1.1.2.1 1).trans (show _=some (Value.int .i64 c) from rfl)
      have xl:=block_lt HB1.out.1.1.2.1
      go_wp2_with fail
      refine (HHD.out _).mono ?_
      rintro e wH ⟨s1,c1',rfl,hst,bH⟩
      clear x0 x1 xl
      obtain⟨wE,hwE⟩:∃ wE,wE=wH.alloc (.cells #[.string s1,.int .i64 c1',.bool st.isNone] 97):=⟨_,rfl⟩
      have hbE:Below wH.heap.size wH wE:=by rw [hwE]; exact bstart _ _
      have HBK:Hid (BkEnd w wE wH.heap.size st):=by
       rw[hwE]
       exact BkEnd.start (bnext HB1.out.1.1.1 bH) ((bH.block _ (block_lt HB1.out.1.1.2.2.1)).trans HB1.out.1.1.2.2.1) hst
      have HE:Hid ((Came wE a1 nA fA∧Came wE a2 nB fB∧DCame wE ar nR (fun j=>R.getD j (0,0)))∧IOwn wE gth gth 19 19 (third R)∧Came wE (some ⟨gt,ot,none⟩) nT (toldF R)):=by
       have h1:=(HB1.out.1.1.called bH).called hbE
       refine⟨⟨h1.2.2.2.1,h1.2.2.2.2,(HB1.out.1.2.called bH).called hbE⟩,(HB1.out.2.called bH).called hbE,?_⟩
       rcases (HCT.out.called bH).called hbE with q | ⟨g,off,e,hg,hcc⟩
       ·omega
       ·exact .inr ⟨g,off,e,hg,fun i hi=>hcc i (by omega)⟩
      have hEs:wE.heap.size=wH.heap.size+1:=by rw [hwE]; simp
      have H0:Hid (Lp1 154 wE (wE.alloc (.cells #[.int .i64 ((nA:Int) - 257),.int .i64 5,.bool false,.int .i64 ((nB:Int) - 1),.int .i64 5,.bool false,.int .i64 ((nT:Int) - 4),.int .i64 4,.bool false] 154)) (whd nA nB nT) (.slice (some ⟨wH.heap.size+1,0,none⟩) 3 3)):=by
       have h:=own_lit wE 154 wE.heap.size (Nat.le_refl _) (whd nA nB nT) (by simp [whd])
       refine⟨bstart _ _,?_⟩
       rw[← hEs]
       exact h
      have HWE:=hid_of hwE
      have HEs:=hid_of hEs
      clear hwE hbE hEs hst bH HB1 HCT
      go_wp2_with fail
      rw[← HWE.out]
      clear HWE
      generalize wH.heap.size=B at *
      generalize wE.alloc _=X2 at H0 ⊢
      go_loopg [20,21] (nT+1) (fun gk v i w'=>∃ (j g1 c1:Nat),j≤nT∧nT - j≤gk∧i=.int .i64 j∧v=.slice (some ⟨g1,0,none⟩) (3+j) c1∧Hid (Lp1 154 wE w' (whd nA nB nT ++ toldTo R j) (.slice (some ⟨g1,0,none⟩) (3+j) c1)))
      case atStart=>exact⟨0,B+1,3,Nat.zero_le _,by omega,rfl,rfl,by simpa [toldTo] using H0⟩
      case round=>
       clear H0
       obtain⟨j,g1,cp1,hj,hgk,rfl,rfl,hS⟩:=hrel
       by_cases hlt:j < nT
       ·have dl:decide ((j:Int) < (nT:Int))=true:=decide_eq_true (by omega)
        obtain⟨t1,t2⟩:wr.cell? ⟨gt,ot+j,none⟩=some (.int .i64 (toldF R j))∧gt < wr.heap.size:=by
         rcases HE.out.2.2.called hS.out.1 with q | ⟨g,off,e,hg,hcc⟩
         ·omega
         ·cases e
          exact⟨hcc j hlt,hg⟩
        have HT:=hid_of (toldTo_next R j)
        have HL:Hid ((whd nA nB nT ++ toldTo R j).length=3+j):=by rw [List.length_append,toldTo_length]; rfl
        obtain⟨V,hV⟩:∃ V,V=toldF R j:=⟨_,rfl⟩
        rw[← hV] at t1 HT
        clear hV
        go_wp2_with (at_builtin; refine parts_append Tryz.underlying110 info_piece (S:=wE.heap.size) (xs:=whd nA nB nT ++ toldTo R j) (ys:=[(V,3,false)]) rfl _ _ rfl rfl (World.ownsRow.alloc hS.out.2 _) ⟨wr.heap.size,0,none⟩ 1 1 rfl rfl (news_part wr _ _ _ _ _ rfl) (by rw [HL.out]; simp only [List.length_singleton]; omega) (by have:=hS.out.1.size; simp; omega) ?_)
        intro v' w5 y1 y2 y3
        have y4:w5.ownsRow wE.heap.size 154 3 v' (whd nA nB nT ++ toldTo R (j+1)).length (pcells (whd nA nB nT ++ toldTo R (j+1))):=by
         rw[HT.out]
         simpa using y1
        have hl2:(whd nA nB nT ++ toldTo R (j+1)).length=3+(j+1):=by rw [List.length_append,toldTo_length]; rfl
        have hB5:Below wE.heap.size wE w5:=(hS.out.1.trans ((bstart wr (.cells #[.int .i64 V,.int .i64 3,.bool false] 154)).mono hS.out.1.size)).grown y2 (by have:=hS.out.1.size; simp; omega) (fun k e=>(World.ownsRow.lt hS.out.2 k e).1)
        obtain⟨g5,cp5,rfl⟩:∃ g cap,v'=.slice (some ⟨g,0,none⟩) (whd nA nB nT ++ toldTo R (j+1)).length cap:=by
         rcases y4.2 with ⟨_,h0⟩ | ⟨g,cap,cur,rfl,_⟩
         ·omega
         ·exact⟨g,cap,rfl⟩
        rw[hl2]
        have HN:Hid (Lp1 154 wE w5 (whd nA nB nT ++ toldTo R (j+1)) (.slice (some ⟨g5,0,none⟩) (3+(j+1)) cp5)):=⟨hB5,by rw [hl2] at y4; rw [hl2]; exact y4⟩
        clear y1 y2 y3 y4 hB5 hl2
        go_wp2_with fail
        go_roundg (nT - (j+1))
        case measure=>omega
        case rel=>exact⟨j+1,g5,cp5,by omega,Nat.le_refl _,by go_num,rfl,HN⟩
       ·obtain rfl:nT=j:=by omega
        have dl:decide ((nT:Int) < (nT:Int))=false:=decide_eq_false (by omega)
        have hgv:wE.heap.size≤g1∧g1 < wr.heap.size:=World.ownsRow.lt hS.out.2 g1 rfl
        have hgthl:gth < wE.heap.size:=HE.out.2.1.lt
        go_wp2_with fail
        refine (specCodes_good (some ⟨gth,0,none⟩) 19 19 (third R) wr (HE.out.2.1.called hS.out.1).sl.came HCD.out).mono ?_
        rintro e wQ ⟨rfl,hO,hBQ⟩
        have HQO:=hid_of hO
        have HQB:Hid (Below wE.heap.size wE wQ):=hS.out.1.trans (hBQ.mono hS.out.1.size)
        have HQR:Hid (LpQ 154 wQ wQ wE.heap.size g1 (.slice (some ⟨g1,0,none⟩) (3+nT) cp1) (whd nA nB nT ++ toldTo R nT)):=⟨⟨rfl,rfl,rfl,Nat.le_refl _,fun _ _ _=>rfl⟩,row_called hS.out.2 hBQ,g1,rfl,.inl rfl⟩
        have hgol:=hO.lt
        have hgo1:wr.heap.size≠g1:=by omega
        generalize wr.heap.size=go at *
        clear hS hO hBQ
        go_wp2_with fail
        go_loopg [20,24] (nR+1) (fun gk v i w'=>∃ (j g2 c2:Nat),j≤nR∧nR - j≤gk∧i=.int .i64 j∧v=.slice (some ⟨g2,0,none⟩) (3+nT+2 * j) c2∧Hid (LpQ 154 wQ w' wE.heap.size g1 (.slice (some ⟨g2,0,none⟩) (3+nT+2 * j) c2) (whd nA nB nT ++ toldTo R nT ++ runsP R (R.take j))))
        case atStart=>exact⟨0,g1,cp1,Nat.zero_le _,by omega,rfl,rfl,by simpa [runsP] using HQR⟩
        case round=>
         clear HQR
         obtain⟨j,g2,cp2,hj2,hgk2,rfl,rfl,hS⟩:=hrel
         have HBE:Hid (Below wE.heap.size wE wr):=HQB.out.grown hS.out.1 HQB.out.size (fun k e=>by cases e; exact hgv.1)
         by_cases hlt2:j < nR
         ·have dl2:decide ((j:Int) < (nR:Int))=true:=decide_eq_true (by omega)
          have hrl:j < R.length:=by rw [HNR.out]; exact hlt2
          rcases HE.out.1.2.2.called HBE.out with q | ⟨gr,off,hra,hrg,hc⟩
          ·omega
          have hgrE:gr < wE.heap.size:=by
           rcases HE.out.1.2.2 with q | ⟨gr',off',hra',hrg',_⟩
           ·omega
           ·rw[hra] at hra'
            cases hra'
            exact hrg'
          subst hra
          obtain⟨f0,f1⟩:=hc j hlt2
          simp only [] at f0 f1
          have hb:=HSY.out (R.getD j (0,0)) (by rw [List.getD_eq_getElem?_getD,List.getElem?_eq_getElem hrl]; exact List.getElem_mem hrl)
          have htk:=take_run9 hrl
          obtain⟨⟨s9,x⟩,hr⟩:∃ r,r=R.getD j (0,0):=⟨_,rfl⟩
          rw[← hr] at f0 f1 hb htk
          simp only [] at f0 f1 hb
          obtain⟨sn,rfl⟩:=Int.eq_ofNat_of_zero_le hb.1
          have hsn:sn < 19:=by omega
          have HTK:=hid_of htk
          have p0:=(HQO.out.grown hS.out.1 (fun e=>by have:=Option.some.inj e; omega)).cell sn hsn
          have p1:=(HE.out.2.1.called HBE.out).cell sn hsn
          have hgl:go < wr.heap.size:=Nat.lt_of_lt_of_le hgol hS.out.1.size
          have hgtl:gth < wr.heap.size:=Nat.lt_of_lt_of_le hgthl HBE.out.size
          obtain⟨g2',hg2,hg2'⟩:=hS.out.2.2
          have hg2e:g2=g2':=Option.some.inj hg2
          subst hg2e
          have hn1:go≠g2:=by omega
          have hn2:gth≠g2:=by
           rcases hg2' with q | q
           ·omega
           ·have:=HQB.out.size
            omega
          have hn3:gr≠g2:=by
           rcases hg2' with q | q
           ·omega
           ·have:=HQB.out.size
            omega
          have h15:=HCD.out.2.1 sn hsn
          obtain⟨fl,hfl⟩:=Int.eq_ofNat_of_zero_le h15.1
          have HCP:Hid (codeP (third R) 19 sn=(codeOf (third R) 19 sn,fl,true)):=by
           show (codeOf (third R) 19 sn,(third R sn).toNat,true)=_
           rw[hfl]
           rfl
          have HL:Hid ((whd nA nB nT ++ toldTo R nT ++ runsP R (R.take j)).length=3+nT+2 * j):=by
           rw[List.length_append,List.length_append,toldTo_length,runsP_length,List.length_take,Nat.min_eq_left (by omega)]
           rfl
          have HPN:Hid (whd nA nB nT ++ toldTo R nT ++ runsP R (R.take (j+1))=whd nA nB nT ++ toldTo R nT ++ runsP R (R.take j) ++ [(codeOf (third R) 19 sn,fl,true),(x,bitsOf (sn:Int),false)]):=by
           rw[HTK.out,runsP_snoc,← List.append_assoc,← HCP.out]
           rfl
          generalize hPj:whd nA nB nT ++ toldTo R nT ++ runsP R (R.take j)=Pj at *
          have HEB:Hid (∀ W,Calls Tryz.prog 116 #[.int .i64 (sn:Int)] W fun e w'=>e=.returned (.int .i64 ((bitsOf (sn:Int):Nat):Int))∧w'=W):=fun W=>specBits (sn:Int) W
          rw[hfl] at p1
          have HSQ:=hid_of hS.out
          generalize bitsOf (sn:Int)=bt at *
          generalize codeOf (third R) 19 sn=V at *
          have hKS:wE.heap.size≤wr.heap.size:=HBE.out.size
          clear hc hr htk hS hg2 hPj HCP h15 hfl
          go_wp2_with fail
          go_region_held_law (fun u=>u.cell? ⟨go,sn,none⟩=some (.int .i64 V)∧u.cell? ⟨gth,sn,none⟩=some (.int .i64 (fl:Int))∧u.cell? ⟨gr,off+j * 2+1,none⟩=some (.int .i64 x)) (first | go_keep | (refine⟨?_,?_,?_⟩ <;> first | assumption | go_keep | (simp [*]; done))) (first | (have _:=hEBc; refine if_wanted (wanted_none rfl) ?_; refine wp_parts Tryz.underlying110 info_piece rfl (.tmp 146) (.tmp 164) rfl wE.heap.size (.slice (some ⟨g2,0,none⟩) (3+nT+2 * j) cp2) Pj [(V,fl,true),(x,bt,false)] (by simp [Act.eval]) (by exact World.ownsRow.alloc HSQ.out.2.1 _) ⟨wr.heap.size,0,none⟩ 2 2 (by simp [Act.eval]) rfl (by decide) (by exact news_parts wr _ [(V,fl,true),(x,bt,false)] _ rfl) (by rw [HL.out]; simp only [List.length_cons,List.length_nil]; omega) (by exact Nat.le_trans hKS (by simp)) (3+nT+2 * j+2) (by rw [List.length_append,HL.out]; rfl) ?_; intro g' cap' w3 y1 y2 y3 y4; have z0:=far_cell (by first | exact bstart wr _ | exact (bstart wr _).drew) y2 hgl hn1 p0; have z1:=far_cell (by first | exact bstart wr _ | exact (bstart wr _).drew) y2 hgtl hn2 p1; have z2:=far_cell (by first | exact bstart wr _ | exact (bstart wr _).drew) y2 hrg hn3 f1) | (go_at_call 116; refine (HEB.out _).mono ?_; rintro e u1 ⟨rfl,rfl⟩; have hEBc:(1:Nat)≤1:=Nat.le_refl 1))
          all_goals
           have hlen:(Pj ++ [(V,fl,true),(x,bt,false)]).length=3+nT+2 * j+2:=by rw [List.length_append,HL.out]; rfl
           have HN:Hid (LpQ 154 wQ w3 wE.heap.size g1 (.slice (some ⟨g',0,none⟩) (3+nT+2 * j+2) cap') (Pj ++ [(V,fl,true),(x,bt,false)])):=(LpQ.called HSQ.out (by first | exact bstart wr _ | exact (bstart wr _).drew)).next y2 (by rw [hlen]; exact y1) (by rcases y3 with q | q; exact .inl q; exact .inr (Nat.le_of_eq q.symm))
           clear hlen y1 y2 y3 y4
           go_wp2_with fail
           go_roundg (nR - (j+1))
           case measure=>omega
           case rel=>
            refine⟨j+1,g',cap',by omega,Nat.le_refl _,by go_num,by rw [show 3+nT+2 * (j+1)=3+nT+2 * j+2 by omega],?_⟩
            show LpQ _ _ _ _ _ _ _
            rw[HPN.out,show 3+nT+2 * (j+1)=3+nT+2 * j+2 by omega]
            exact HN.out
         ·obtain rfl:nR=j:=by omega
          have dl2:decide ((nR:Int) < (nR:Int))=false:=decide_eq_false (by omega)
          have hfull:R.take nR=R:=by rw [← HNR.out,List.take_length]
          rw[hfull] at hS
          have HLE:Hid ((whd nA nB nT ++ toldTo R nT ++ runsP R R).length=3+nT+2 * nR):=by
           rw[List.length_append,List.length_append,toldTo_length,runsP_length,HNR.out]
           rfl
          have HSR:Hid (wr.ownsRow wE.heap.size 154 3 (.slice (some ⟨g2,0,none⟩) (3+nT+2 * nR) cp2) (whd nA nB nT ++ toldTo R nT ++ runsP R R).length (pcells (whd nA nB nT ++ toldTo R nT ++ runsP R R))):=hS.out.2.1
          clear hfull hS HQO HQB
          obtain⟨PT,hPT⟩:∃ PT,PT=whd nA nB nT ++ toldTo R nT ++ runsP R R:=⟨_,rfl⟩
          rw[← hPT] at HLE HSR HRT
          have HPT:=hid_of hPT
          clear hPT
          go_wp2_with fail
          refine (HBO.out wr a1 a2 k1 k2 (HC.out.called (bnext HBK.out.1 HBE.out)) (HE.out.1.1.called HBE.out) (HE.out.1.2.1.called HBE.out)).mono ?_
          rintro e w8 ⟨gb,kb,rfl,hpb,b8⟩
          have HR8:=hid_of (row_called HSR.out b8)
          have HP8:=hid_of hpb
          have HB8:=hid_of ((HBK.out.called HBE.out).called b8)
          have HK8:Hid (wE.heap.size≤w8.heap.size):=Nat.le_trans HBE.out.size b8.size
          have HEL:Hid (B < wE.heap.size):=by have:=HEs.out; show B < wE.heap.size; omega
          have HEL2:Hid (w.heap.size+1 < wE.heap.size):=block_lt HBK.out.2.1
          clear hpb b8 HSR HBK HBE HE HBO HC
          go_wp2_with (at_builtin; refine parts_append Tryz.underlying110 info_piece (S:=wE.heap.size) (xs:=PT) (ys:=PB) rfl _ _ rfl rfl (by rw [HLE.out] at HR8; rw [HLE.out]; exact HR8.out) ⟨gb,0,none⟩ nP kb rfl HNP.out HP8.out.news (by rw [HLE.out,HNP.out]; omega) HK8.out ?_)
          intro v9 w9 y1 y2 y3
          have y4:w9.ownsRow wE.heap.size 154 3 v9 (PT ++ PB).length (pcells (PT ++ PB)):=by simpa using y1
          obtain⟨a9,k9,hv9,_,_,_,hPC,_⟩:=pcame_of_own y4 rfl
          have hlen:(PT ++ PB).length=3+nT+2 * nR+nP:=by rw [List.length_append,HLE.out,HNP.out]
          rw[hlen] at hv9
          subst hv9
          have hg9:w8.grownBy w9 (some g2):=y2
          have hg2w:=(World.ownsRow.lt HR8.out g2 rfl).1
          have HB9:Hid (BkEnd w w9 B st):=by
           obtain⟨z1,z2,⟨s5,c5,zb,zs⟩,z4,z5⟩:=HB8.out
           have hl:=HEL.out
           have hl2:=HEL2.out
           refine⟨z1.grown hg9 z1.size (fun k e=>by cases e; omega),(hg9.block _ (block_lt z2) (fun e=>by have:=Option.some.inj e; omega)).trans z2,⟨s5,c5,(hg9.block _ (block_lt zb) (fun e=>by have:=Option.some.inj e; omega)).trans zb,zs⟩,z4,z5⟩
          have hall:=l09All_any B st a9 k9 (PT ++ PB) w9 HB9.out.2.2.1 hPC HRT.out (by rw [hlen]; omega)
          rw[hlen] at hall
          have HALL:=hid_of hall
          clear hall hPC y1 y2 y3 y4 hg9 HB8 HR8 HP8 hlen
          go_wp2_with fail
          refine HALL.out.mono ?_
          rintro e w5 ⟨rfl,hO5,hg5⟩
          have HE5:=hid_of (HB9.out.put hO5 hg5)
          clear hO5 hg5 HB9 HALL
          obtain⟨st5,h5⟩:∃ st5,st5=st.bind fun o=>bitsOut o (partBits (PT ++ PB)):=⟨_,rfl⟩
          rw[← h5] at HE5
          have H5:=hid_of h5
          clear h5
          obtain⟨s5,c5,hb5,hs5⟩:=HE5.out.2.2.1
          obtain⟨e0,e1,e2⟩:=hb5.cells
          have hr:=HE5.out.2.1
          have r0:w5.cell? ⟨w.heap.size+1,0,none⟩=some (.string ⟨#[]⟩):=(cell_of_block hr 0).trans rfl
          have r1:w5.cell? ⟨w.heap.size+1,1,none⟩=some (.int .i64 0):=(cell_of_block hr 1).trans rfl
          have rf:∀ q,w5.frozen? ⟨w.heap.size+1,q,none⟩=false:=fun q=>by simp [World.frozen?,hr]
          have rl:=block_lt hr
          have bl:=hb5.lt
          have HST:=hid_of hs5
          clear hr hb5 hs5
          cases st5 with
          | none=>
           simp only [Option.isNone_none] at e2
           go_wp2_with fail
           refine bodyPost_ret (v:=.tuple #[.agg #[.string ⟨#[]⟩,.int .i64 0],.bool false]) ?_ rfl ⟨by rw [← HPT.out,← H5.out]; rfl,two_below HE5.out.1 (Nat.le_succ _) _ _⟩
           simp[results,Tryz.results71,go_sem,r0,r1]
          | some o=>
           obtain⟨rfl,rfl,_⟩:=HST.out o rfl
           simp only [Option.isNone_some] at e2
           go_wp2_with fail
           refine bodyPost_ret (v:=.tuple #[.agg #[.string o.1,.int .i64 (o.2:Int)],.bool true]) ?_ rfl ⟨by rw [← HPT.out,← H5.out]; rfl,two_below HE5.out.1 (Nat.le_succ _) _ _⟩
           simp[results,Tryz.results71,go_sem,r0,r1]
end Go.Proofs.YtklpiihnbokkkaaGreatDoor
