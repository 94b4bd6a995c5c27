/-
  Texts of the proof, put together.
-/
import Derived.Test.YtcbbcadfolgioaaDoorPe17
import Derived.Test.YtcbbcadfolgioaaDoorPe20
namespace Go.Proofs.YtcbbcadfolgioaaDoor
section
open TakeMath FiltMath
theorem wk_wsum (row above:ByteArray) (unit k:Nat) (h:row.size≤200):wk row above unit k=wsum (filtB (k:Int) (bts row) (bts above) unit) row.size:=by
 unfold wk weight
 rw[filtT_size,if_pos h]
 refine wsum_congr _ fun i hi=>?_
 unfold filtT
 rw[bts_str (fun x hx=>by
  obtain⟨m,-,rfl⟩:=List.mem_map.mp hx
  exact filtB_byte _ _ _ _ _) i (by rw [filtL_length]; exact hi),filtL_get _ _ _ _ _ _ hi]
end
section
open Go.RowKit Go.Joins OutMath TakeMath RastMath FiltMath ScanMath
theorem pixelUnit_any (c:Int) (N D:Nat) (w:World) (hN:chan c=(N:Int)) (hN4:N≤4) (hD:D≤16):Calls Tryd.prog 83 #[.int .i64 c,.int .i64 (D:Int)] w fun e w'=>e=.returned (.int .i64 (unitN N D:Int))∧w'=w:=by
 have hc:=implChannels c
 rw[hN] at hc
 have hm:=Nat.mul_le_mul hN4 hD
 obtain⟨q,hq⟩:∃ q,q=N * D:=⟨_,rfl⟩
 rw[← hq] at hm
 have hqi:(N:Int) * (D:Int)=(q:Int):=by rw [hq]; simp
 have w1:IntKind.i64.wrap (q:Int)=(q:Int):=by rw [IntKind.wrap_i64]; omega
 obtain⟨x,hx⟩:∃ x,x=q / 8:=⟨_,rfl⟩
 have t1:(q:Int).tdiv 8=(x:Int):=by
  rw[Int.tdiv_eq_ediv_of_nonneg (by omega)]
  omega
 have w2:IntKind.i64.wrap (x:Int)=(x:Int):=by rw [IntKind.wrap_i64]; omega
 have HU:Hid ((unitN N D:Int)=if (x:Int) < 1 then 1 else (x:Int)):=by
  show _=_
  unfold unitN
  rw[← hq,← hx]
  split <;> split <;> omega
 clear hq hx
 go_enter Tryd.func83,Tryd.ntmps83
 go_wp2_with fail
 refine (hc _).mono ?_
 rintro e w1 ⟨rfl,rfl⟩
 go_wp2_with fail
 all_goals
  go_ret
  refine⟨?_,rfl⟩
  show Ending.returned (Value.int .i64 _)=_
  rw[HU.out]
  congr 2
  split <;> omega
theorem lineBytes_any (cw ch N D:Nat) (c d:Int) (w:World) (hcw:cw≤24) (hch:ch≤24) (h0:cw=0→ch=0) (hd:DepthR c d) (hN:chan c=(N:Int)) (hD:d=(D:Int)):
  Calls Tryd.prog 47 #[.int .i64 (cw:Int),.int .i64 (ch:Int),.int .i64 c,.int .i64 d] w fun e w'=>e=.returned (.int .i64 ((ch * (rb (cw * N) D+1):Nat):Int))∧Below w.heap.size w w':=by
 have hN4:N≤4:=by have:=(chan_range c).2; omega
 have hD16:D≤16:=by have:=five_range (depth_five hd); omega
 have hw:∀ x:Int,-100000≤x→x≤100000→(Lit.int .i64 x).wf=true:=fun x h1 h2=>by
  simp[Lit.wf,IntKind.min,IntKind.max,IntKind.signed,IntKind.bits]
  omega
 have hcb:-100000≤c∧c≤100000:=by
  have:=chan_pos hd
  unfold chan at this
  repeat' split at this
  all_goals omega
 have hr:=rowBytes_answer (cw:Int) c d
 obtain⟨x,hx⟩:∃ x:Nat,rowB (cw:Int) c d=(x:Int)∧x≤200∧(1≤cw→x=rb (cw * N) D):=by
  rcases Nat.eq_zero_or_pos cw with e | e
  ·refine⟨0,?_,by omega,fun h=>by omega⟩
   unfold rowB
   rw[if_neg (fun h=>by have:=h.1.1; omega)]
   rfl
  ·exact⟨_,rowB_rb ⟨e,hcw⟩ hd hN hD,rb_small (Nat.mul_le_mul hcw hN4) hD16,fun _=>rfl⟩
 obtain⟨hx,hxb,hxr⟩:=hx
 have hr':=fun W=>hr W (hw _ (by omega) (by omega)) (hw c hcb.1 hcb.2) (hw d (by omega) (by omega))
 rw[hx] at hr'
 have hm:ch * (1+x)≤24 * 201:=Nat.mul_le_mul hch (by omega)
 obtain⟨q,hq⟩:∃ q,q=ch * (1+x):=⟨_,rfl⟩
 rw[← hq] at hm
 have e1:(ch:Int) * (1+(x:Int))=(q:Int):=by rw [hq]; simp
 have HQ:Hid (q=ch * (rb (cw * N) D+1)):=by
  show _=_
  rcases Nat.eq_zero_or_pos cw with e | e
  ·rw[hq,h0 e,Nat.zero_mul,Nat.zero_mul]
  ·rw[hq,hxr e,Nat.add_comm]
 have w1:IntKind.i64.wrap (q:Int)=(q:Int):=by rw [IntKind.wrap_i64]; omega
 clear hq hx hr hw hxr hd hN hD h0
 go_enter Tryd.func47,Tryd.ntmps47
 go_wp2_with fail
 refine (hr' _).mono ?_
 rintro e w1 ⟨rfl,hB⟩
 have HB:=hid_of hB
 clear hB
 go_wp2_with fail
 go_ret
 exact⟨by rw [← HQ.out]; rfl,HB.out⟩
theorem kindOfWay_any (way:Int) (row above:ByteArray) (unit n gr cr ga ca:Nat) (w:World) (hu:1≤unit∧unit≤8) (hn:n≤200) (h1:row.size=n) (h2:above.size=n) (hR:BAt w gr n (bts row)) (hA:BAt w ga n (bts above)):
  Calls Tryd.prog 85 #[.int .i64 way,.slice (some ⟨gr,0,none⟩) n cr,.slice (some ⟨ga,0,none⟩) n ca,.int .i64 (unit:Int)] w fun e w'=>e=.returned (.int .i64 (kindV way row above unit))∧Below w.heap.size w w':=by
 by_cases h5:way=5
 ·have hl:=lightest_any (bts row) (bts above) unit n gr cr ga ca w hu hn (bts_byte row) (bts_byte above) hR hA
  have e:kindV way row above unit=((least (fun k:Nat=>wsum (filtB (k:Int) (bts row) (bts above) unit) n) 4:Nat):Int):=by
   unfold kindV bestV
   rw[if_pos h5,if_pos ⟨by omega,by omega,by rw [h1,h2],by rw [h1]; exact hn⟩,Int.toNat_natCast]
   congr 2
   refine funext fun k=>?_
   rw[wk_wsum row above unit k (by rw [h1]; exact hn),h1]
  rw[e]
  generalize (least (fun k:Nat=>wsum (filtB (k:Int) (bts row) (bts above) unit) n) 4:Nat)=m at hl
  subst h5
  clear hR hA e
  go_enter Tryd.func85,Tryd.ntmps85
  go_wp2_with fail
  refine hl.mono ?_
  rintro e w1 ⟨rfl,hB⟩
  have HB:=hid_of hB
  clear hB
  go_wp2_with fail
  go_ret
  exact⟨rfl,HB.out⟩
 ·have e:kindV way row above unit=way:=by unfold kindV; rw [if_neg h5]
  rw[e]
  have d1:(way == 5)=false:=beq_no1 h5
  have d2:decide (way=5)=false:=decide_eq_false h5
  clear hR hA e
  go_enter Tryd.func85,Tryd.ntmps85
  go_wp2_with fail
  go_ret
  exact⟨rfl,Below.refl _ _⟩
theorem row_at (x0 x1 x2 x3:Int) (g off n cap s y:Nat) (w:World) (h0:1≤s) (h1:s≤96) (hs:x0 * chan x2=(s:Int)) (hcap:n≤cap) (_hcl:cap≤maxLen) (hy:y≤24) (hin:y * s+s≤n) (hn:n≤100000):
  Calls Tryd.prog 78 #[.agg #[.int .i64 x0,.int .i64 x1,.int .i64 x2,.int .i64 x3,.slice (some ⟨g,off,none⟩) n cap],.int .i64 (y:Int)] w fun e w'=>e=.returned (.slice (some ⟨g,off+y * s,none⟩) s s)∧Below w.heap.size w w':=by
 have hr:=fun W=>rowSize_any x0 x1 x2 x3 (some ⟨g,off,none⟩) n cap s W (by omega) (by omega) hs
 have hys:y * s≤24 * 96:=Nat.mul_le_mul hy h1
 obtain⟨l,hl⟩:∃ l,l=y * s:=⟨_,rfl⟩
 have e1:(y:Int) * (s:Int)=(l:Int):=by rw [hl]; simp
 have e2:((y:Int)+1) * (s:Int)=(l:Int)+(s:Int):=by rw [Int.add_mul,e1]; omega
 rw[← hl] at hin hys ⊢
 have HX:Hid ((w.alloc (.cells #[.int .i64 x0,.int .i64 x1,.int .i64 x2,.int .i64 x3,.slice (some ⟨g,off,none⟩) n cap] 26)).heap[w.heap.size]?=some (.cells #[.int .i64 x0,.int .i64 x1,.int .i64 x2,.int .i64 x3,.slice (some ⟨g,off,none⟩) n cap] 26 (0,0))):=heap_alloc_new w _
 have HB:=hid_of (bstart w (.cells #[.int .i64 x0,.int .i64 x1,.int .i64 x2,.int .i64 x3,.slice (some ⟨g,off,none⟩) n cap] 26))
 unfold maxLen at _hcl
 have ne:¬ l+s=l:=by omega
 clear hl hs
 go_enter Tryd.func78,Tryd.ntmps78
 go_wp2_with fail
 generalize w.alloc (.cells #[.int .i64 x0,.int .i64 x1,.int .i64 x2,.int .i64 x3,.slice (some ⟨g,off,none⟩) n cap] 26)=W1 at HX HB ⊢
 refine (hr W1).mono ?_
 rintro e w2 ⟨rfl,hB2⟩
 have bx:=(hB2.block _ (block_lt HX.out)).trans HX.out
 have k4:w2.cell? ⟨w.heap.size,4,none⟩=some (.slice (some ⟨g,off,none⟩) n cap):=(cell_of_block bx 4).trans rfl
 have lx:=block_lt bx
 have HBB:=hid_of (bnext HB.out hB2)
 clear bx hB2
 go_wp2_with fail
 refine bodyPost_ret (v:=.slice (some ⟨g,off+l,none⟩) s s) ?_ rfl ⟨rfl,HBB.out⟩
 simp[results,Tryd.results78,go_sem]
end
section
open Go.RowKit Go.Joins OutMath RastMath PassMath ScanMath
set_option maxHeartbeats 1600000 in
theorem implScanBytes_in (W H N D:Nat) (c d:Int) (lace:Bool) (w:World) (hW:1≤W∧W≤24) (hH:1≤H∧H≤24) (hd:DepthR c d) (hN:chan c=(N:Int)) (hD:d=(D:Int)) (hG:GridG w):
  Calls Tryd.prog 17 #[.int .i64 (W:Int),.int .i64 (H:Int),.int .i64 c,.int .i64 d,.bool lace] w fun e w'=>e=.returned (.int .i64 (scanN lace W H N D:Int))∧Below w.heap.size w w':=by
 have h1:=isSide_any (W:Int)
 have h2:=isSide_any (H:Int)
 have h3:=implDepth c d
 rw[decide_eq_true (show SideR (W:Int) from ⟨by omega,by omega⟩)] at h1
 rw[decide_eq_true (show SideR (H:Int) from ⟨by omega,by omega⟩)] at h2
 rw[decide_eq_true hd] at h3
 have hN4:N≤4:=by have:=(chan_range c).2; omega
 have hD16:D≤16:=by have:=five_range (depth_five hd); omega
 have HLB:Hid (∀ (p:Nat) (V:World),Calls Tryd.prog 47 #[.int .i64 (cwL lace W H p:Int),.int .i64 (chL lace W H p:Int),.int .i64 c,.int .i64 d] V fun e w'=>e=.returned (.int .i64 ((chL lace W H p * (rb (cwL lace W H p * N) D+1):Nat):Int))∧Below V.heap.size V w'):=fun p V=>
  lineBytes_any _ _ N D c d V (Nat.le_trans (cwL_le _ _ _ _) hW.2) (Nat.le_trans (chL_le _ _ _ _) hH.2) (fun h=>by
   rcases Nat.eq_zero_or_pos (chL lace W H p) with e | e
   ·exact e
   ·have:=cwL_pos (lace:=lace) (p:=p) hW.1 e
    omega) hd hN hD
 have HOS:Hid (∀ p,p≤7→offP (cwL lace W H) (chL lace W H) N D p≤7 * 4824):=fun p hp=>Nat.le_trans (offP_small hW.2 hH.2 hN4 hD16 p) (Nat.mul_le_mul_right _ hp)
 have HOF:Hid (∀ p,offP (cwL lace W H) (chL lace W H) N D (p+1)=offP (cwL lace W H) (chL lace W H) N D p+chL lace W H p * (rb (cwL lace W H p * N) D+1)):=fun p=>rfl
 have HO0:Hid (offP (cwL lace W H) (chL lace W H) N D 0=0):=rfl
 have HG:=hid_of hG
 unfold scanN
 clear hG hd hN hD
 cases lace with
 | false=>
  have hl:=fun V=>HLB.out 0 V
  have HE:Hid (offP (cwL false W H) (chL false W H) N D (cntL false)=chL false W H 0 * (rb (cwL false W H 0 * N) D+1)):=by
   show offP (cwL false W H) (chL false W H) N D 1=_
   rw[HOF.out,HO0.out,Nat.zero_add]
  rw[HE.out]
  generalize chL false W H 0 * (rb (cwL false W H 0 * N) D+1)=Q at hl
  have e1:((cwL false W H 0:Nat):Int)=(W:Int):=rfl
  have e2:((chL false W H 0:Nat):Int)=(H:Int):=rfl
  rw[e1,e2] at hl
  clear HLB HOS HOF HO0 HE e1 e2
  go_enter Tryd.func17,Tryd.ntmps17
  go_wp2_with fail
  refine (h1 _).mono ?_
  rintro e w1 ⟨rfl,rfl⟩
  go_wp2_with fail
  refine (h2 _).mono ?_
  rintro e w2 ⟨rfl,rfl⟩
  go_wp2_with fail
  refine (h3 _).mono ?_
  rintro e w3 ⟨rfl,hB3⟩
  have HB3:=hid_of hB3
  clear hB3
  go_wp2_with fail
  refine (hl _).mono ?_
  rintro e w4 ⟨rfl,hB4⟩
  have HB4:=hid_of (bnext HB3.out hB4)
  clear hB4
  go_wp2_with fail
  go_ret
  exact⟨rfl,HB4.out⟩
 | true=>
  have HPS:Hid (∀ (p:Nat) (V:World),p < 7→GridG V→Calls Tryd.prog 13 #[.int .i64 (W:Int),.int .i64 (H:Int),.int .i64 (p:Int)] V fun e w'=>e=.returned (.tuple #[.int .i64 (cwL true W H p:Int),.int .i64 (chL true W H p:Int)])∧Below V.heap.size V w'):=fun p V hp hV=>by
   have h:=passSize_any (W:Int) (H:Int) (p:Int) V hV
   obtain⟨e1,e2⟩:=wideV_nat hW hH hp
   rw[e1,e2] at h
   exact h
  have HE:Hid (cntL true=7):=rfl
  generalize offP (cwL true W H) (chL true W H) N D=OF at *
  generalize cwL true W H=cw at *
  generalize chL true W H=ch at *
  rw[HE.out]
  go_enter Tryd.func17,Tryd.ntmps17
  go_wp2_with fail
  refine (h1 _).mono ?_
  rintro e w1 ⟨rfl,rfl⟩
  go_wp2_with fail
  refine (h2 _).mono ?_
  rintro e w2 ⟨rfl,rfl⟩
  go_wp2_with fail
  refine (h3 _).mono ?_
  rintro e w3 ⟨rfl,hB3⟩
  have HB3:=hid_of hB3
  clear hB3 h1 h2 h3
  go_wp2_with fail
  go_loopw [11,36] (fun v i w'=>∃ p:Nat,p≤7∧i=.int .i64 (p:Int)∧v=.int .i64 (OF p:Int)∧Hid (Below w2.heap.size w2 w')) (fun _ i _=>7 - (intOf i).toNat)
  case atStart=>exact⟨0,by omega,rfl,by rw [HO0.out]; rfl,HB3⟩
  case round=>
   obtain⟨p,hp,rfl,rfl,hS⟩:=hrel
   by_cases hlt:p < 7
   ·have dl:decide ((p:Int) < 7)=true:=decide_eq_true (by omega)
    have hps:=HPS.out p wr hlt (HG.out.called hS.out)
    have hlb:=HLB.out p
    have HN:=hid_of (HOF.out p)
    have hos:=HOS.out (p+1) (by omega)
    rw[HN.out] at hos
    generalize ch p * (rb (cw p * N) D+1)=q at *
    generalize OF p=o at *
    go_wp2_with fail
    refine hps.mono ?_
    rintro e w4 ⟨rfl,hB4⟩
    have HB4:=hid_of (bnext hS.out hB4)
    clear hB4
    go_wp2_with fail
    refine (hlb _).mono ?_
    rintro e w5 ⟨rfl,hB5⟩
    have HB5:=hid_of (bnext HB4.out hB5)
    clear hB5
    go_wp2_with fail
    go_roundw
    case rel=>exact⟨p+1,by omega,by go_num,by rw [HN.out]; go_num,HB5⟩
    case measure=>simp [intOf]; omega
   ·obtain rfl:p=7:=by omega
    go_wp2_with fail
    go_ret
    exact⟨rfl,hS.out⟩
end
section
open Go.RowKit RastMath PassMath
def PassesAnswer:Prop:=∀ (r:Ras) (a:Option Addr) (cap:Nat) (w:World),Came w a r.n r.f→r.n≤1048576→r.n≤cap→cap≤maxLen→GridG w→
 (RasOk r→Calls Tryd.prog 11 #[rasA r a cap] w fun e w'=>∃ a' c',e=.returned (.tuple #[.slice a' 7 c',.bool true])∧RSL w' w.heap.size a' 7 (passesR r)∧Below w.heap.size w w')∧
 (¬ RasOk r→Calls Tryd.prog 11 #[rasA r a cap] w fun e w'=>∃ a' c',e=.returned (.tuple #[.slice a' 0 c',.bool false])∧Below w.heap.size w w')
end
section
open Go.RowKit Go.Joins
def PsI (w w':World) (bx:Array Value) (gl p:Nat) (R:Nat→Ras):Prop:=
 w'.heap[w.heap.size]?=some (.cells bx 26 (0,0))∧
 (∃ (A:Nat→Option Addr) (G C:Nat→Nat) (cur:Array Value),w.heap.size+1≤gl∧w'.heap[gl]?=some (.cells cur 26 (0,0))∧cur.size=35∧(∀ j,j < p→HeadAt cur (j * 5) (R j) (A j) (C j))∧
  (∀ j,j < p→RowOwn w' w.heap.size (A j) (G j) (R j).n (C j) (R j).f)∧(∀ j,j < p→0 < (R j).n→G j≠gl)∧∀ i j,i < p→j < p→i≠j→0 < (R i).n→0 < (R j).n→G i≠G j)∧
 Below w.heap.size w w'
def PsQ (w w':World) (bx:Array Value) (gl p:Nat) (R:Nat→Ras) (a0 a1 a2 a3:Int):Prop:=
 PsI w w' bx gl p R∧w'.cell? ⟨gl,p * 5,none⟩=some (.int .i64 a0)∧w'.cell? ⟨gl,p * 5+1,none⟩=some (.int .i64 a1)∧w'.cell? ⟨gl,p * 5+2,none⟩=some (.int .i64 a2)∧w'.cell? ⟨gl,p * 5+3,none⟩=some (.int .i64 a3)
section
variable {w w' w2:World} {bx:Array Value} {gl p:Nat} {R:Nat→Ras} {a0 a1 a2 a3:Int}
theorem PsI.lt (h:PsI w w' bx gl p R):gl < w'.heap.size∧w.heap.size < gl:=by
 obtain⟨_,⟨A,G,C,cur,h1,h2,_⟩,_⟩:=h
 exact⟨block_lt h2,h1⟩
theorem PsI.called (h:PsI w w' bx gl p R) (hb:Below w'.heap.size w' w2):PsI w w2 bx gl p R:=by
 obtain⟨h0,⟨A,G,C,cur,h1,h2,h3,h4,h5,h6,h7⟩,h8⟩:=h
 refine⟨(hb.block _ (block_lt h0)).trans h0,⟨A,G,C,cur,h1,(hb.block _ (block_lt h2)).trans h2,h3,h4,fun j hj=>(h5 j hj).keep (fun hn=>hb.block _ ((h5 j hj).lt hn).1),h6,h7⟩,bnext h8 hb⟩
theorem PsQ.called (h:PsQ w w' bx gl p R a0 a1 a2 a3) (hb:Below w'.heap.size w' w2):PsQ w w2 bx gl p R a0 a1 a2 a3:=by
 have hl:=h.1.lt.1
 obtain⟨h0,h1,h2,h3,h4⟩:=h
 exact⟨h0.called hb,(hb.cell (p:=⟨gl,p * 5,none⟩) hl).trans h1,(hb.cell (p:=⟨gl,p * 5+1,none⟩) hl).trans h2,(hb.cell (p:=⟨gl,p * 5+2,none⟩) hl).trans h3,(hb.cell (p:=⟨gl,p * 5+3,none⟩) hl).trans h4⟩
theorem PsI.cell (h:PsI w w' bx gl p R) (k:Nat) (hk:k < 35):(∃ z,w'.cell? ⟨gl,k,none⟩=some z)∧w'.frozen? ⟨gl,k,none⟩=false:=by
 obtain⟨_,⟨A,G,C,cur,h1,h2,h3,_⟩,_⟩:=h
 refine⟨?_,unfrozen_of_block h2 k⟩
 rw[cell_of_block h2 k,Array.getElem?_eq_getElem (by omega)]
 exact⟨_,rfl⟩
theorem PsI.set (h:PsI w w' bx gl p R) (k:Nat) (hk:p * 5≤k) (v:Value):PsI w (w'.setCell ⟨gl,k,none⟩ v) bx gl p R:=by
 obtain⟨h0,⟨A,G,C,cur,h1,h2,h3,h4,h5,h6,h7⟩,h8⟩:=h
 refine⟨(heap_setCell_other w' ⟨gl,k,none⟩ _ _ (by show ¬ w.heap.size=gl; omega)).trans h0,⟨A,G,C,cur.setIfInBounds k v,h1,block_setCell (i:=k) h2 v,by simpa using h3,fun j hj=>?_,fun j hj=>(h5 j hj).keep (fun hn=>heap_setCell_other w' ⟨gl,k,none⟩ _ _ (h6 j hj hn)),h6,h7⟩,Below.setCell (p:=⟨gl,k,none⟩) h8 (by show w.heap.size≤gl; omega) _⟩
 have e:∀ i,i < p * 5→(cur.setIfInBounds k v)[i]?=cur[i]?:=fun i hi=>Array.getElem?_setIfInBounds_ne (by omega)
 have q:=h4 j hj
 unfold HeadAt at q ⊢
 rw[e _ (by omega),e _ (by omega),e _ (by omega),e _ (by omega),e _ (by omega)]
 exact q
theorem PsI.shape (h:PsI w w' bx gl p R) (hp:p < 7) (v:Value):PsQ w (((((w'.setCell ⟨gl,p * 5,none⟩ (.int .i64 a0)).setCell ⟨gl,p * 5+1,none⟩ (.int .i64 a1)).setCell ⟨gl,p * 5+2,none⟩ (.int .i64 a2)).setCell ⟨gl,p * 5+3,none⟩ (.int .i64 a3)).setCell ⟨gl,p * 5+4,none⟩ v) bx gl p R a0 a1 a2 a3:=by
 have h0:=h.set (p * 5) (Nat.le_refl _) (.int .i64 a0)
 have h1:=h0.set (p * 5+1) (by omega) (.int .i64 a1)
 have h2:=h1.set (p * 5+2) (by omega) (.int .i64 a2)
 have h3:=h2.set (p * 5+3) (by omega) (.int .i64 a3)
 have h4:=h3.set (p * 5+4) (by omega) v
 refine⟨h4,?_⟩
 obtain⟨_,⟨A,G,C,cur,_,q2,q3,_⟩,_⟩:=h
 have b0:=block_setCell (i:=p * 5) q2 (.int .i64 a0)
 have b1:=block_setCell (i:=p * 5+1) b0 (.int .i64 a1)
 have b2:=block_setCell (i:=p * 5+2) b1 (.int .i64 a2)
 have b3:=block_setCell (i:=p * 5+3) b2 (.int .i64 a3)
 have b4:=block_setCell (i:=p * 5+4) b3 v
 refine⟨(cell_of_block b4 _).trans ?_,(cell_of_block b4 _).trans ?_,(cell_of_block b4 _).trans ?_,(cell_of_block b4 _).trans ?_⟩
 all_goals
  simp[Array.getElem?_setIfInBounds,q3]
  omega
theorem PsQ.next (h:PsQ w w' bx gl p R a0 a1 a2 a3) {S K:Nat} {F:Nat→Int} {B:Nat} (hp:p < 7) (hR:R p=⟨a0,a1,a2,a3,K,F⟩) (hO:IOwn w' B S K K F) (hB:w.heap.size≤B) (hgl:gl < B) (hK:K≤maxLen) (hold:∃ w4:World,w4.heap.size=B∧PsQ w w4 bx gl p R a0 a1 a2 a3∧Below B w4 w'):PsI w (w'.setCell ⟨gl,p * 5+4,none⟩ (.slice (some ⟨S,0,none⟩) K K)) bx gl (p+1) R:=by
 obtain⟨w4,rfl,hq,hb4⟩:=hold
 have hS:=hO.base_le
 obtain⟨⟨g0,⟨A,G,C,cur,g1,g2,g3,g4,g5,g6,g7⟩,g8⟩,c0,c1,c2,c3⟩:=hq
 have hk:∀ b,b < w4.heap.size→b≠gl→(w'.setCell ⟨gl,p * 5+4,none⟩ (.slice (some ⟨S,0,none⟩) K K)).heap[b]?=w4.heap[b]?:=fun b hb hbn=>
  (heap_setCell_other w' ⟨gl,p * 5+4,none⟩ _ _ hbn).trans (hb4.block b hb)
 have g2':w'.heap[gl]?=some (.cells cur 26 (0,0)):=(hb4.block _ hgl).trans g2
 rw[cell_of_block g2] at c0 c1 c2 c3
 refine⟨(hk _ (block_lt g0) (by omega)).trans g0,⟨fun i=>if i=p then some ⟨S,0,none⟩ else A i,fun i=>if i=p then S else G i,fun i=>if i=p then K else C i,_,g1,block_setCell (i:=p * 5+4) g2' _,by simpa using g3,fun j hj=>?_,fun j hj=>?_,fun j hj hn=>?_,fun i j hi hj hij hni hnj=>?_⟩,?_⟩
 ·by_cases e:j=p
  ·subst e
   simp only [if_pos]
   rw[hR]
   refine⟨?_,?_,?_,?_,?_⟩
   ·rw[Array.getElem?_setIfInBounds_ne (by omega)]; exact c0
   ·rw[Array.getElem?_setIfInBounds_ne (by omega)]; exact c1
   ·rw[Array.getElem?_setIfInBounds_ne (by omega)]; exact c2
   ·rw[Array.getElem?_setIfInBounds_ne (by omega)]; exact c3
   ·rw[Array.getElem?_setIfInBounds_self_of_lt (by omega)]
  ·simp only [if_neg e]
   have q:=g4 j (by omega)
   unfold HeadAt at q ⊢
   rw[Array.getElem?_setIfInBounds_ne (by omega),Array.getElem?_setIfInBounds_ne (by omega),Array.getElem?_setIfInBounds_ne (by omega),Array.getElem?_setIfInBounds_ne (by omega),Array.getElem?_setIfInBounds_ne (by omega)]
   exact q
 ·by_cases e:j=p
  ·subst e
   simp only [if_pos]
   rw[hR]
   refine⟨Nat.le_refl _,hK,.inr ⟨rfl,?_⟩⟩
   refine (hO.mono hB).keep (heap_setCell_other w' ⟨gl,j * 5+4,none⟩ _ _ (by show ¬ S=gl; omega))
  ·simp only [if_neg e]
   have q:=g5 j (by omega)
   exact q.keep (fun hn=>hk _ (q.lt hn).1 (g6 j (by omega) hn))
 ·by_cases e:j=p
  ·subst e
   simp only [if_pos]
   omega
  ·simp only [if_neg e]
   exact g6 j (by omega) hn
 ·by_cases e:i=p
  ·subst e
   simp only [if_pos,if_neg (fun h:j=i=>hij h.symm)]
   have:=((g5 j (by omega)).lt hnj).1
   omega
  ·by_cases e2:j=p
   ·subst e2
    simp only [if_pos,if_neg e]
    have:=((g5 i (by omega)).lt hni).1
    omega
   ·simp only [if_neg e,if_neg e2]
    exact g7 i j (by omega) (by omega) hij hni hnj
 ·exact Below.setCell (p:=⟨gl,p * 5+4,none⟩) (g8.trans (hb4.mono (by omega))) (by show w.heap.size≤gl; omega) _
theorem PsI.out (h:PsI w w' bx gl 7 R):RSL w' w.heap.size (some ⟨gl,0,none⟩) 7 R:=by
 obtain⟨_,⟨A,G,C,cur,h1,h2,h3,h4,h5,h6,h7⟩,_⟩:=h
 exact .inr ⟨gl,rfl,A,G,C,by omega,⟨cur,h2,by omega,h4⟩,h5,h6,h7⟩
end
end
end Go.Proofs.YtcbbcadfolgioaaDoor
