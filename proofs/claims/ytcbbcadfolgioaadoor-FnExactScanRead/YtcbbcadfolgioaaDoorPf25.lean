/-
  Texts of the proof, put together.
-/
import Derived.Test.YtcbbcadfolgioaaDoorPf24
import Derived.Test.YtcbbcadfolgioaaDoorPf13
import Derived.Test.YtcbbcadfolgioaaDoorPf21
namespace Go.Proofs.YtcbbcadfolgioaaDoor
section
open Go.RowKit Go.Joins OutMath TakeMath RastMath FiltMath ScanMath
theorem pixelUnit_any (c:Int) (N D:Nat) (w:World) (hN:chan c=(N:Int)) (hN4:N≤4) (hD:D≤16):Calls Tryd.prog 83 #[.int .i64 c,.int .i64 (D:Int)] w fun e w'=>e=.returned (.int .i64 (unitN N D:Int))∧w'=w:=by
 have hc:=implChannels c
 rw[hN] at hc
 have hm:=Nat.mul_le_mul hN4 hD
 obtain⟨q,hq⟩:∃ q,q=N * D:=⟨_,rfl⟩
 rw[← hq] at hm
 have hqi:(N:Int) * (D:Int)=(q:Int):=by rw [hq]; simp
 have w1:IntKind.i64.wrap (q:Int)=(q:Int):=by rw [IntKind.wrap_i64]; omega
 obtain⟨x,hx⟩:∃ x,x=q / 8:=⟨_,rfl⟩
 have t1:(q:Int).tdiv 8=(x:Int):=by
  rw[Int.tdiv_eq_ediv_of_nonneg (by omega)]
  omega
 have w2:IntKind.i64.wrap (x:Int)=(x:Int):=by rw [IntKind.wrap_i64]; omega
 have HU:Hid ((unitN N D:Int)=if (x:Int) < 1 then 1 else (x:Int)):=by
  show _=_
  unfold unitN
  rw[← hq,← hx]
  split <;> split <;> omega
 clear hq hx
 go_enter Tryd.func83,Tryd.ntmps83
 go_wp2_with fail
 refine (hc _).mono ?_
 rintro e w1 ⟨rfl,rfl⟩
 go_wp2_with fail
 all_goals
  go_ret
  refine⟨?_,rfl⟩
  show Ending.returned (Value.int .i64 _)=_
  rw[HU.out]
  congr 2
  split <;> omega
theorem lineBytes_any (cw ch N D:Nat) (c d:Int) (w:World) (hcw:cw≤24) (hch:ch≤24) (h0:cw=0→ch=0) (hd:DepthR c d) (hN:chan c=(N:Int)) (hD:d=(D:Int)):
  Calls Tryd.prog 47 #[.int .i64 (cw:Int),.int .i64 (ch:Int),.int .i64 c,.int .i64 d] w fun e w'=>e=.returned (.int .i64 ((ch * (rb (cw * N) D+1):Nat):Int))∧Below w.heap.size w w':=by
 have hN4:N≤4:=by have:=(chan_range c).2; omega
 have hD16:D≤16:=by have:=five_range (depth_five hd); omega
 have hw:∀ x:Int,-100000≤x→x≤100000→(Lit.int .i64 x).wf=true:=fun x h1 h2=>by
  simp[Lit.wf,IntKind.min,IntKind.max,IntKind.signed,IntKind.bits]
  omega
 have hcb:-100000≤c∧c≤100000:=by
  have:=chan_pos hd
  unfold chan at this
  repeat' split at this
  all_goals omega
 have hr:=rowBytes_answer (cw:Int) c d
 obtain⟨x,hx⟩:∃ x:Nat,rowB (cw:Int) c d=(x:Int)∧x≤200∧(1≤cw→x=rb (cw * N) D):=by
  rcases Nat.eq_zero_or_pos cw with e | e
  ·refine⟨0,?_,by omega,fun h=>by omega⟩
   unfold rowB
   rw[if_neg (fun h=>by have:=h.1.1; omega)]
   rfl
  ·exact⟨_,rowB_rb ⟨e,hcw⟩ hd hN hD,rb_small (Nat.mul_le_mul hcw hN4) hD16,fun _=>rfl⟩
 obtain⟨hx,hxb,hxr⟩:=hx
 have hr':=fun W=>hr W (hw _ (by omega) (by omega)) (hw c hcb.1 hcb.2) (hw d (by omega) (by omega))
 rw[hx] at hr'
 have hm:ch * (1+x)≤24 * 201:=Nat.mul_le_mul hch (by omega)
 obtain⟨q,hq⟩:∃ q,q=ch * (1+x):=⟨_,rfl⟩
 rw[← hq] at hm
 have e1:(ch:Int) * (1+(x:Int))=(q:Int):=by rw [hq]; simp
 have HQ:Hid (q=ch * (rb (cw * N) D+1)):=by
  show _=_
  rcases Nat.eq_zero_or_pos cw with e | e
  ·rw[hq,h0 e,Nat.zero_mul,Nat.zero_mul]
  ·rw[hq,hxr e,Nat.add_comm]
 have w1:IntKind.i64.wrap (q:Int)=(q:Int):=by rw [IntKind.wrap_i64]; omega
 clear hq hx hr hw hxr hd hN hD h0
 go_enter Tryd.func47,Tryd.ntmps47
 go_wp2_with fail
 refine (hr' _).mono ?_
 rintro e w1 ⟨rfl,hB⟩
 have HB:=hid_of hB
 clear hB
 go_wp2_with fail
 go_ret
 exact⟨by rw [← HQ.out]; rfl,HB.out⟩
theorem row_at (x0 x1 x2 x3:Int) (g off n cap s y:Nat) (w:World) (h0:1≤s) (h1:s≤96) (hs:x0 * chan x2=(s:Int)) (hcap:n≤cap) (_hcl:cap≤maxLen) (hy:y≤24) (hin:y * s+s≤n) (hn:n≤100000):
  Calls Tryd.prog 78 #[.agg #[.int .i64 x0,.int .i64 x1,.int .i64 x2,.int .i64 x3,.slice (some ⟨g,off,none⟩) n cap],.int .i64 (y:Int)] w fun e w'=>e=.returned (.slice (some ⟨g,off+y * s,none⟩) s s)∧Below w.heap.size w w':=by
 have hr:=fun W=>rowSize_any x0 x1 x2 x3 (some ⟨g,off,none⟩) n cap s W (by omega) (by omega) hs
 have hys:y * s≤24 * 96:=Nat.mul_le_mul hy h1
 obtain⟨l,hl⟩:∃ l,l=y * s:=⟨_,rfl⟩
 have e1:(y:Int) * (s:Int)=(l:Int):=by rw [hl]; simp
 have e2:((y:Int)+1) * (s:Int)=(l:Int)+(s:Int):=by rw [Int.add_mul,e1]; omega
 rw[← hl] at hin hys ⊢
 have HX:Hid ((w.alloc (.cells #[.int .i64 x0,.int .i64 x1,.int .i64 x2,.int .i64 x3,.slice (some ⟨g,off,none⟩) n cap] 26)).heap[w.heap.size]?=some (.cells #[.int .i64 x0,.int .i64 x1,.int .i64 x2,.int .i64 x3,.slice (some ⟨g,off,none⟩) n cap] 26 (0,0))):=heap_alloc_new w _
 have HB:=hid_of (bstart w (.cells #[.int .i64 x0,.int .i64 x1,.int .i64 x2,.int .i64 x3,.slice (some ⟨g,off,none⟩) n cap] 26))
 unfold maxLen at _hcl
 have ne:¬ l+s=l:=by omega
 clear hl hs
 go_enter Tryd.func78,Tryd.ntmps78
 go_wp2_with fail
 generalize w.alloc (.cells #[.int .i64 x0,.int .i64 x1,.int .i64 x2,.int .i64 x3,.slice (some ⟨g,off,none⟩) n cap] 26)=W1 at HX HB ⊢
 refine (hr W1).mono ?_
 rintro e w2 ⟨rfl,hB2⟩
 have bx:=(hB2.block _ (block_lt HX.out)).trans HX.out
 have k4:w2.cell? ⟨w.heap.size,4,none⟩=some (.slice (some ⟨g,off,none⟩) n cap):=(cell_of_block bx 4).trans rfl
 have lx:=block_lt bx
 have HBB:=hid_of (bnext HB.out hB2)
 clear bx hB2
 go_wp2_with fail
 refine bodyPost_ret (v:=.slice (some ⟨g,off+l,none⟩) s s) ?_ rfl ⟨rfl,HBB.out⟩
 simp[results,Tryd.results78,go_sem]
end
section
open Go.RowKit Go.Joins OutMath RastMath PassMath ScanMath
set_option maxHeartbeats 1600000 in
theorem implScanBytes_in (W H N D:Nat) (c d:Int) (lace:Bool) (w:World) (hW:1≤W∧W≤24) (hH:1≤H∧H≤24) (hd:DepthR c d) (hN:chan c=(N:Int)) (hD:d=(D:Int)) (hG:GridG w):
  Calls Tryd.prog 17 #[.int .i64 (W:Int),.int .i64 (H:Int),.int .i64 c,.int .i64 d,.bool lace] w fun e w'=>e=.returned (.int .i64 (scanN lace W H N D:Int))∧Below w.heap.size w w':=by
 have h1:=isSide_any (W:Int)
 have h2:=isSide_any (H:Int)
 have h3:=implDepth c d
 rw[decide_eq_true (show SideR (W:Int) from ⟨by omega,by omega⟩)] at h1
 rw[decide_eq_true (show SideR (H:Int) from ⟨by omega,by omega⟩)] at h2
 rw[decide_eq_true hd] at h3
 have hN4:N≤4:=by have:=(chan_range c).2; omega
 have hD16:D≤16:=by have:=five_range (depth_five hd); omega
 have HLB:Hid (∀ (p:Nat) (V:World),Calls Tryd.prog 47 #[.int .i64 (cwL lace W H p:Int),.int .i64 (chL lace W H p:Int),.int .i64 c,.int .i64 d] V fun e w'=>e=.returned (.int .i64 ((chL lace W H p * (rb (cwL lace W H p * N) D+1):Nat):Int))∧Below V.heap.size V w'):=fun p V=>
  lineBytes_any _ _ N D c d V (Nat.le_trans (cwL_le _ _ _ _) hW.2) (Nat.le_trans (chL_le _ _ _ _) hH.2) (fun h=>by
   rcases Nat.eq_zero_or_pos (chL lace W H p) with e | e
   ·exact e
   ·have:=cwL_pos (lace:=lace) (p:=p) hW.1 e
    omega) hd hN hD
 have HOS:Hid (∀ p,p≤7→offP (cwL lace W H) (chL lace W H) N D p≤7 * 4824):=fun p hp=>Nat.le_trans (offP_small hW.2 hH.2 hN4 hD16 p) (Nat.mul_le_mul_right _ hp)
 have HOF:Hid (∀ p,offP (cwL lace W H) (chL lace W H) N D (p+1)=offP (cwL lace W H) (chL lace W H) N D p+chL lace W H p * (rb (cwL lace W H p * N) D+1)):=fun p=>rfl
 have HO0:Hid (offP (cwL lace W H) (chL lace W H) N D 0=0):=rfl
 have HG:=hid_of hG
 unfold scanN
 clear hG hd hN hD
 cases lace with
 | false=>
  have hl:=fun V=>HLB.out 0 V
  have HE:Hid (offP (cwL false W H) (chL false W H) N D (cntL false)=chL false W H 0 * (rb (cwL false W H 0 * N) D+1)):=by
   show offP (cwL false W H) (chL false W H) N D 1=_
   rw[HOF.out,HO0.out,Nat.zero_add]
  rw[HE.out]
  generalize chL false W H 0 * (rb (cwL false W H 0 * N) D+1)=Q at hl
  have e1:((cwL false W H 0:Nat):Int)=(W:Int):=rfl
  have e2:((chL false W H 0:Nat):Int)=(H:Int):=rfl
  rw[e1,e2] at hl
  clear HLB HOS HOF HO0 HE e1 e2
  go_enter Tryd.func17,Tryd.ntmps17
  go_wp2_with fail
  refine (h1 _).mono ?_
  rintro e w1 ⟨rfl,rfl⟩
  go_wp2_with fail
  refine (h2 _).mono ?_
  rintro e w2 ⟨rfl,rfl⟩
  go_wp2_with fail
  refine (h3 _).mono ?_
  rintro e w3 ⟨rfl,hB3⟩
  have HB3:=hid_of hB3
  clear hB3
  go_wp2_with fail
  refine (hl _).mono ?_
  rintro e w4 ⟨rfl,hB4⟩
  have HB4:=hid_of (bnext HB3.out hB4)
  clear hB4
  go_wp2_with fail
  go_ret
  exact⟨rfl,HB4.out⟩
 | true=>
  have HPS:Hid (∀ (p:Nat) (V:World),p < 7→GridG V→Calls Tryd.prog 13 #[.int .i64 (W:Int),.int .i64 (H:Int),.int .i64 (p:Int)] V fun e w'=>e=.returned (.tuple #[.int .i64 (cwL true W H p:Int),.int .i64 (chL true W H p:Int)])∧Below V.heap.size V w'):=fun p V hp hV=>by
   have h:=passSize_any (W:Int) (H:Int) (p:Int) V hV
   obtain⟨e1,e2⟩:=wideV_nat hW hH hp
   rw[e1,e2] at h
   exact h
  have HE:Hid (cntL true=7):=rfl
  generalize offP (cwL true W H) (chL true W H) N D=OF at *
  generalize cwL true W H=cw at *
  generalize chL true W H=ch at *
  rw[HE.out]
  go_enter Tryd.func17,Tryd.ntmps17
  go_wp2_with fail
  refine (h1 _).mono ?_
  rintro e w1 ⟨rfl,rfl⟩
  go_wp2_with fail
  refine (h2 _).mono ?_
  rintro e w2 ⟨rfl,rfl⟩
  go_wp2_with fail
  refine (h3 _).mono ?_
  rintro e w3 ⟨rfl,hB3⟩
  have HB3:=hid_of hB3
  clear hB3 h1 h2 h3
  go_wp2_with fail
  go_loopw [11,36] (fun v i w'=>∃ p:Nat,p≤7∧i=.int .i64 (p:Int)∧v=.int .i64 (OF p:Int)∧Hid (Below w2.heap.size w2 w')) (fun _ i _=>7 - (intOf i).toNat)
  case atStart=>exact⟨0,by omega,rfl,by rw [HO0.out]; rfl,HB3⟩
  case round=>
   obtain⟨p,hp,rfl,rfl,hS⟩:=hrel
   by_cases hlt:p < 7
   ·have dl:decide ((p:Int) < 7)=true:=decide_eq_true (by omega)
    have hps:=HPS.out p wr hlt (HG.out.called hS.out)
    have hlb:=HLB.out p
    have HN:=hid_of (HOF.out p)
    have hos:=HOS.out (p+1) (by omega)
    rw[HN.out] at hos
    generalize ch p * (rb (cw p * N) D+1)=q at *
    generalize OF p=o at *
    go_wp2_with fail
    refine hps.mono ?_
    rintro e w4 ⟨rfl,hB4⟩
    have HB4:=hid_of (bnext hS.out hB4)
    clear hB4
    go_wp2_with fail
    refine (hlb _).mono ?_
    rintro e w5 ⟨rfl,hB5⟩
    have HB5:=hid_of (bnext HB4.out hB5)
    clear hB5
    go_wp2_with fail
    go_roundw
    case rel=>exact⟨p+1,by omega,by go_num,by rw [HN.out]; go_num,HB5⟩
    case measure=>simp [intOf]; omega
   ·obtain rfl:p=7:=by omega
    go_wp2_with fail
    go_ret
    exact⟨rfl,hS.out⟩
theorem implScanBytes_out (W H c d:Int) (lace:Bool) (w:World) (h:¬ (SideR W∧SideR H∧DepthR c d)):
  Calls Tryd.prog 17 #[.int .i64 W,.int .i64 H,.int .i64 c,.int .i64 d,.bool lace] w fun e w'=>e=.returned (.int .i64 0)∧Below w.heap.size w w':=by
 have h1:=isSide_any W
 have h2:=isSide_any H
 have h3:=implDepth c d
 by_cases k1:SideR W
 ·rw[decide_eq_true k1] at h1
  by_cases k2:SideR H
  ·rw[decide_eq_true k2] at h2
   rw[decide_eq_false (fun k3=>h ⟨k1,k2,k3⟩)] at h3
   clear h k1 k2
   go_enter Tryd.func17,Tryd.ntmps17
   go_wp2_with fail
   refine (h1 _).mono ?_
   rintro e w1 ⟨rfl,rfl⟩
   go_wp2_with fail
   refine (h2 _).mono ?_
   rintro e w2 ⟨rfl,rfl⟩
   go_wp2_with fail
   refine (h3 _).mono ?_
   rintro e w3 ⟨rfl,hB3⟩
   have HB3:=hid_of hB3
   clear hB3
   go_wp2_with fail
   go_ret
   exact⟨rfl,HB3.out⟩
  ·rw[decide_eq_false k2] at h2
   clear h k1 k2
   go_enter Tryd.func17,Tryd.ntmps17
   go_wp2_with fail
   refine (h1 _).mono ?_
   rintro e w1 ⟨rfl,rfl⟩
   go_wp2_with fail
   refine (h2 _).mono ?_
   rintro e w2 ⟨rfl,rfl⟩
   go_wp2_with fail
   go_ret
   exact⟨rfl,Below.refl _ _⟩
 ·rw[decide_eq_false k1] at h1
  clear h k1
  go_enter Tryd.func17,Tryd.ntmps17
  go_wp2_with fail
  refine (h1 _).mono ?_
  rintro e w1 ⟨rfl,rfl⟩
  go_wp2_with fail
  go_ret
  exact⟨rfl,Below.refl _ _⟩
theorem scanBytes_answer:ScanBytesAnswer:=by
 intro W H c d lace w hw1 hw2 hw3 hw4 hG
 unfold scanB
 by_cases h:SideR W∧SideR H∧DepthR c d
 ·rw[if_pos h]
  obtain⟨h1,h2,h3⟩:=h
  have hc:=chan_range c
  have h5:=five_range (depth_five h3)
  obtain⟨W',rfl⟩:=Int.eq_ofNat_of_zero_le (show 0≤W by have:=h1.1; omega)
  obtain⟨H',rfl⟩:=Int.eq_ofNat_of_zero_le (show 0≤H by have:=h2.1; omega)
  have b1:=h1.1
  have b2:=h1.2
  have b3:=h2.1
  have b4:=h2.2
  rw[Int.toNat_natCast,Int.toNat_natCast]
  exact implScanBytes_in W' H' (chan c).toNat d.toNat c d lace w ⟨by omega,by omega⟩ ⟨by omega,by omega⟩ h3 (by omega) (by omega) hG
 ·rw[if_neg h]
  exact implScanBytes_out W H c d lace w h
end
section
open Go.RowKit Go.Joins OutMath RastMath PassMath ScanMath
set_option maxHeartbeats 1600000 in
theorem scanParts_one (x0 x1 x2 x3:Int) (a:Option Addr) (n cap:Nat) (w:World):
  Calls Tryd.prog 44 #[.agg #[.int .i64 x0,.int .i64 x1,.int .i64 x2,.int .i64 x3,.slice a n cap],.bool false] w fun e w'=>∃ g,e=.returned (.slice (some ⟨g,0,none⟩) 1 1)∧w.heap.size≤g∧w'.heap[g]?=some (.cells #[.int .i64 x0,.int .i64 x1,.int .i64 x2,.int .i64 x3,.slice a n cap] 26 (0,0))∧Below w.heap.size w w':=by
 go_enter Tryd.func44,Tryd.ntmps44
 go_wp2_with fail
 go_ret
 refine⟨_,rfl,by simp,?_,bal (bstart _ _) _⟩
 have h:=heap_alloc_new (w.alloc (.cells #[.int .i64 x0,.int .i64 x1,.int .i64 x2,.int .i64 x3,.slice a n cap] 26)) (.cells #[.int .i64 x0,.int .i64 x1,.int .i64 x2,.int .i64 x3,.slice a n cap] 26)
 rw[show (w.alloc (.cells #[.int .i64 x0,.int .i64 x1,.int .i64 x2,.int .i64 x3,.slice a n cap] 26)).heap.size=w.heap.size+1 by simp] at h
 exact h
set_option maxHeartbeats 1600000 in
theorem scanParts_lace (r:Ras) (a:Option Addr) (cap:Nat) (w:World) (hC:Came w a r.n r.f) (hn:r.n≤1048576) (hcap:r.n≤cap) (hcm:cap≤maxLen) (hG:GridG w) (hok:RasOk r):
  Calls Tryd.prog 44 #[rasA r a cap,.bool true] w fun e w'=>∃ a' c',e=.returned (.slice a' 7 c')∧RSL w' (w.heap.size+1) a' 7 (passesR r)∧Below w.heap.size w w':=by
 have b1:=bstart w (.cells #[.int .i64 r.x0,.int .i64 r.x1,.int .i64 r.x2,.int .i64 r.x3,.slice a r.n cap] 26)
 have hp:=(passes_answer r a cap (w.alloc (.cells #[.int .i64 r.x0,.int .i64 r.x1,.int .i64 r.x2,.int .i64 r.x3,.slice a r.n cap] 26)) (hC.called b1) hn hcap hcm (hG.called b1)).1 hok
 have HB1:=hid_of b1
 have HZ:Hid ((w.alloc (.cells #[.int .i64 r.x0,.int .i64 r.x1,.int .i64 r.x2,.int .i64 r.x3,.slice a r.n cap] 26)).heap.size=w.heap.size+1):=by show _=_; simp
 clear b1 hC hn hcap hcm hG hok
 go_enter Tryd.func44,Tryd.ntmps44
 go_wp2_with fail
 refine hp.mono ?_
 rintro e w1 ⟨a',c',rfl,hR,hB⟩
 rw[HZ.out] at hR
 have HR:=hid_of hR
 have HB:=hid_of (bnext HB1.out hB)
 clear hR hB hp
 go_wp2_with fail
 go_ret
 exact⟨_,_,rfl,HR.out,HB.out⟩
end
section
open Go.RowKit OutMath RastMath PassMath
theorem ROwnA.read {w w':World} {base g m p S:Nat} {R R':Nat→Ras} {A:Nat→Option Addr} {G C:Nat→Nat} (h:ROwnA w base g m R A G C) (hp:p < m) (hb:But S w w')
  (hS:0 < (R p).n→S=G p) (hS0:(R p).n=0→w.heap.size≤S) (he:∀ j,j < m→j≠p→R' j=R j)
  (h0:(R' p).x0=(R p).x0∧(R' p).x1=(R p).x1∧(R' p).x2=(R p).x2∧(R' p).x3=(R p).x3∧(R' p).n=(R p).n)
  (hO:0 < (R p).n→IOwn w' base S (R p).n (C p) (R' p).f):ROwnA w' base g m R' A G C:=by
 have hg:=h.lt
 obtain⟨h1,⟨cur,hc,h2,h3⟩,h4,h5,h6⟩:=h
 have hgS:g≠S:=by
  rcases Nat.eq_zero_or_pos (R p).n with e | e
  ·have:=hS0 e
   omega
  ·rw[hS e]
   exact Ne.symm (h5 p hp e)
 have hn:∀ j,j < m→(R' j).n=(R j).n:=fun j hj=>by
  by_cases e:j=p
  ·rw[e]
   exact h0.2.2.2.2
  ·rw[he j hj e]
 refine⟨h1,⟨cur,(hb.block g hg hgS).trans hc,h2,fun j hj=>?_⟩,fun j hj=>?_,fun j hj hz=>h5 j hj (by rw [← hn j hj]; exact hz),fun i j hi hj hij q1 q2=>h6 i j hi hj hij (by rw [← hn i hi]; exact q1) (by rw [← hn j hj]; exact q2)⟩
 ·by_cases e:j=p
  ·subst e
   have:=h3 j hj
   unfold HeadAt at this ⊢
   rw[h0.1,h0.2.1,h0.2.2.1,h0.2.2.2.1,h0.2.2.2.2]
   exact this
  ·rw[he j hj e]
   exact h3 j hj
 ·by_cases e:j=p
  ·subst e
   have q:=h4 j hj
   refine⟨by rw [hn j hj]; exact q.1,q.2.1,?_⟩
   rcases q.2.2 with z | ⟨ha,hI⟩
   ·exact .inl (by rw [hn j hj]; exact z)
   ·rcases Nat.eq_zero_or_pos (R j).n with z | z
    ·exact .inl (by rw [hn j hj]; exact z)
    ·refine .inr ⟨ha,?_⟩
     rw[← hS z,hn j hj]
     exact hO z
  ·rw[he j hj e]
   refine (h4 j hj).keep fun hz=>hb.block _ ((h4 j hj).lt hz).1 ?_
   rcases Nat.eq_zero_or_pos (R p).n with z | z
   ·have:=hS0 z
    have:=((h4 j hj).lt hz).1
    omega
   ·rw[hS z]
    exact h6 j p hj hp e hz z
theorem ROwnA.one {w:World} {base g S cap:Nat} {R:Nat→Ras} (hg:base≤g) (hgS:S≠g) (h:w.heap[g]?=some (.cells #[.int .i64 (R 0).x0,.int .i64 (R 0).x1,.int .i64 (R 0).x2,.int .i64 (R 0).x3,.slice (some ⟨S,0,none⟩) (R 0).n cap] 26 (0,0))) (hO:IOwn w base S (R 0).n cap (R 0).f) (hc:(R 0).n≤cap) (hcm:cap≤maxLen):ROwnA w base g 1 R (fun _=>some ⟨S,0,none⟩) (fun _=>S) (fun _=>cap):=by
 refine⟨hg,⟨_,h,by simp,fun j hj=>?_⟩,fun j hj=>?_,fun _ _ _=>hgS,fun i j hi hj hij=>by omega⟩
 ·obtain rfl:j=0:=by omega
  exact⟨rfl,rfl,rfl,rfl,rfl⟩
 ·obtain rfl:j=0:=by omega
  exact⟨hc,hcm,.inr ⟨rfl,hO⟩⟩
end
section
open Go.RowKit
theorem wp_scope_from {P:Program} {a:Act} {w:World} {Q:Exit→Act→World→Prop} {c y:Code} (l:Nat) (J:Act→World→Prop) (μ:Act→World→Nat) (hf:findLabel c l=some (.seq .skip y))
  (pass:∀ a w,J a w→y.wp P (Exit.jump l (fun a' w'=>J a' w'∧μ a' w' < μ a w) Q) a w)
  (first:(∀ a w,J a w→y.wp P (Exit.jump l J Q) a w)→c.wp P (Exit.jump l J Q) a w):(Code.scope c).wp P Q a w:=by
 have weak:∀ a w,J a w→y.wp P (Exit.jump l J Q) a w:=fun a w h=>wp_mono (pass a w h) fun e a' w' q=>by
  cases e with
  | goto l'=>exact⟨q.1,q.2.1⟩
  | normal=>exact q
  | exit id=>exact q
  | ret=>exact q
  | panic ch=>exact q
  | outgrown=>exact q
 exact wp_scope_jumps l J μ hf (first weak) fun a w h=>wp_seq (wp_skip (pass a w h))
end
section
open Go.RowKit Go.Joins OutMath TakeMath RastMath FiltMath ScanMath
theorem bts_zero (n i:Nat) (hi:i < n):bts (zeroT n) i=0:=by
 unfold zeroT
 rw[bts_str (fun x hx=>by rw [List.eq_of_mem_replicate hx]; omega) i (by rw [List.length_replicate]; exact hi)]
 simp[List.getD_eq_getElem?_getD,hi]
theorem rowB_any (cw N D:Nat) (c:Int) (hcw:cw≤24) (hd:DepthR c (D:Int)) (hN:chan c=(N:Int)):rowB (cw:Int) c (D:Int)=(rb (cw * N) D:Int):=by
 rcases Nat.eq_zero_or_pos cw with e | e
 ·unfold rowB rb
  rw[if_neg (fun h=>by have:=h.1.1; omega),e,Nat.zero_mul,Nat.zero_mul]
  rfl
 ·exact rowB_rb ⟨e,hcw⟩ hd hN rfl
theorem tel_cells {cw H D n cap:Nat} {c:Int} {a:Option Addr} {W:World} {X:Nat} (h:W.heap[X]?=some (.cells #[.int .i64 (cw:Int),.int .i64 (H:Int),.int .i64 c,.int .i64 (D:Int),.slice a n cap] 26 (0,0))):W.cell? ⟨X,0,none⟩=some (.int .i64 (cw:Int))∧W.cell? ⟨X,1,none⟩=some (.int .i64 (H:Int))∧W.cell? ⟨X,2,none⟩=some (.int .i64 c)∧W.cell? ⟨X,3,none⟩=some (.int .i64 (D:Int))∧W.cell? ⟨X,4,none⟩=some (.slice a n cap)∧X < W.heap.size:=
 ⟨(cell_of_block h 0).trans rfl,(cell_of_block h 1).trans rfl,(cell_of_block h 2).trans rfl,(cell_of_block h 3).trans rfl,(cell_of_block h 4).trans rfl,block_lt h⟩
end
end Go.Proofs.YtcbbcadfolgioaaDoor
