/-
  Texts of the proof, put together.
-/
import Derived.Test.YtdpfnkcogneanaaDoorBy03
namespace Go.Proofs.YtdpfnkcogneanaaDoor
section
open Go.RowKit Go.Joins RastMath
def RowBytesAnswer:Prop:=∀ (x c d:Int) (w:World),(Lit.int .i64 x).wf=true→(Lit.int .i64 c).wf=true→(Lit.int .i64 d).wf=true→Calls Tryd.prog 62 #[.int .i64 x,.int .i64 c,.int .i64 d] w fun e w'=>e=.returned (.int .i64 (rowB x c d))∧Below w.heap.size w w'
end
section
open Go.RowKit Go.Joins RastMath
theorem rowBytes_answer:RowBytesAnswer:=by
 intro x c d w _ _ _
 unfold rowB
 by_cases hx:SideR x
 ·have hs:=isSide_any x
  rw[decide_eq_true hx] at hs
  by_cases hd:DepthR c d
  ·have hk:=implDepth c d
   rw[decide_eq_true hd] at hk
   rw[if_pos ⟨hx,hd⟩]
   have hc:=chan_range c
   have h5:=five_range (depth_five hd)
   have hch:=implChannels c
   obtain⟨x0,x1⟩:=hx
   generalize chan c=n at hc hch ⊢
   have m1:0≤x * n∧x * n≤96:=⟨Int.mul_nonneg (by omega) hc.1,by
    have:=Int.mul_le_mul x1 hc.2 hc.1 (by omega)
    omega⟩
   have m2:0≤x * n * d∧x * n * d≤1536:=⟨Int.mul_nonneg m1.1 (by omega),by
    have:=Int.mul_le_mul m1.2 h5.2 (by omega) (by omega)
    omega⟩
   have hf:=fun W=>rowFor_any (x * n * d) W m2.1 (by omega)
   go_enter Tryd.func62,Tryd.ntmps62
   go_wp2_with fail
   refine (hs _).mono ?_
   rintro e w1 ⟨rfl,rfl⟩
   go_wp2_with fail
   refine (hk _).mono ?_
   rintro e w1 ⟨rfl,hB⟩
   have HB:=hid_of hB
   clear hB
   go_wp2_with fail
   refine (hch _).mono ?_
   rintro e w2 ⟨rfl,rfl⟩
   go_wp2_with fail
   refine (hf _).mono ?_
   rintro e w2 ⟨rfl,rfl⟩
   go_wp2_with fail
   go_ret
   exact⟨rfl,HB.out⟩
  ·have hk:=implDepth c d
   rw[decide_eq_false hd] at hk
   rw[if_neg (fun h=>hd h.2)]
   go_enter Tryd.func62,Tryd.ntmps62
   go_wp2_with fail
   refine (hs _).mono ?_
   rintro e w1 ⟨rfl,rfl⟩
   go_wp2_with fail
   refine (hk _).mono ?_
   rintro e w1 ⟨rfl,hB⟩
   have HB:=hid_of hB
   clear hB
   go_wp2_with fail
   go_ret
   exact⟨rfl,HB.out⟩
 ·have hs:=isSide_any x
  rw[decide_eq_false hx] at hs
  rw[if_neg (fun h=>hx h.1)]
  go_enter Tryd.func62,Tryd.ntmps62
  go_wp2_with fail
  refine (hs _).mono ?_
  rintro e w1 ⟨rfl,rfl⟩
  go_wp2_with fail
  go_ret
  exact⟨rfl,Below.refl _ _⟩
end
section
open Go.RowKit Go.Joins OutMath RastMath FiltMath ScanMath
theorem lineBytes_any (cw ch N D:Nat) (c d:Int) (w:World) (hcw:cw≤24) (hch:ch≤24) (h0:cw=0→ch=0) (hd:DepthR c d) (hN:chan c=(N:Int)) (hD:d=(D:Int)):
  Calls Tryd.prog 29 #[.int .i64 (cw:Int),.int .i64 (ch:Int),.int .i64 c,.int .i64 d] w fun e w'=>e=.returned (.int .i64 ((ch * (rb (cw * N) D+1):Nat):Int))∧Below w.heap.size w w':=by
 have hN4:N≤4:=by have:=(chan_range c).2; omega
 have hD16:D≤16:=by have:=five_range (depth_five hd); omega
 have hw:∀ x:Int,-100000≤x→x≤100000→(Lit.int .i64 x).wf=true:=fun x h1 h2=>by
  simp[Lit.wf,IntKind.min,IntKind.max,IntKind.signed,IntKind.bits]
  omega
 have hcb:-100000≤c∧c≤100000:=by
  have:=chan_pos hd
  unfold chan at this
  repeat' split at this
  all_goals omega
 have hr:=rowBytes_answer (cw:Int) c d
 obtain⟨x,hx⟩:∃ x:Nat,rowB (cw:Int) c d=(x:Int)∧x≤200∧(1≤cw→x=rb (cw * N) D):=by
  rcases Nat.eq_zero_or_pos cw with e | e
  ·refine⟨0,?_,by omega,fun h=>by omega⟩
   unfold rowB
   rw[if_neg (fun h=>by have:=h.1.1; omega)]
   rfl
  ·exact⟨_,rowB_rb ⟨e,hcw⟩ hd hN hD,rb_small (Nat.mul_le_mul hcw hN4) hD16,fun _=>rfl⟩
 obtain⟨hx,hxb,hxr⟩:=hx
 have hr':=fun W=>hr W (hw _ (by omega) (by omega)) (hw c hcb.1 hcb.2) (hw d (by omega) (by omega))
 rw[hx] at hr'
 have hm:ch * (1+x)≤24 * 201:=Nat.mul_le_mul hch (by omega)
 obtain⟨q,hq⟩:∃ q,q=ch * (1+x):=⟨_,rfl⟩
 rw[← hq] at hm
 have e1:(ch:Int) * (1+(x:Int))=(q:Int):=by rw [hq]; simp
 have HQ:Hid (q=ch * (rb (cw * N) D+1)):=by
  show _=_
  rcases Nat.eq_zero_or_pos cw with e | e
  ·rw[hq,h0 e,Nat.zero_mul,Nat.zero_mul]
  ·rw[hq,hxr e,Nat.add_comm]
 have w1:IntKind.i64.wrap (q:Int)=(q:Int):=by rw [IntKind.wrap_i64]; omega
 clear hq hx hr hw hxr hd hN hD h0
 go_enter Tryd.func29,Tryd.ntmps29
 go_wp2_with fail
 refine (hr' _).mono ?_
 rintro e w1 ⟨rfl,hB⟩
 have HB:=hid_of hB
 clear hB
 go_wp2_with fail
 go_ret
 exact⟨by rw [← HQ.out]; rfl,HB.out⟩
end
section
open Go.RowKit Go.Joins OutMath RastMath PassMath ScanMath
set_option maxHeartbeats 1600000 in
theorem implScanBytes_in (W H N D:Nat) (c d:Int) (lace:Bool) (w:World) (hW:1≤W∧W≤24) (hH:1≤H∧H≤24) (hd:DepthR c d) (hN:chan c=(N:Int)) (hD:d=(D:Int)) (hG:GridG w):
  Calls Tryd.prog 12 #[.int .i64 (W:Int),.int .i64 (H:Int),.int .i64 c,.int .i64 d,.bool lace] w fun e w'=>e=.returned (.int .i64 (scanN lace W H N D:Int))∧Below w.heap.size w w':=by
 have h1:=isSide_any (W:Int)
 have h2:=isSide_any (H:Int)
 have h3:=implDepth c d
 rw[decide_eq_true (show SideR (W:Int) from ⟨by omega,by omega⟩)] at h1
 rw[decide_eq_true (show SideR (H:Int) from ⟨by omega,by omega⟩)] at h2
 rw[decide_eq_true hd] at h3
 have hN4:N≤4:=by have:=(chan_range c).2; omega
 have hD16:D≤16:=by have:=five_range (depth_five hd); omega
 have HLB:Hid (∀ (p:Nat) (V:World),Calls Tryd.prog 29 #[.int .i64 (cwL lace W H p:Int),.int .i64 (chL lace W H p:Int),.int .i64 c,.int .i64 d] V fun e w'=>e=.returned (.int .i64 ((chL lace W H p * (rb (cwL lace W H p * N) D+1):Nat):Int))∧Below V.heap.size V w'):=fun p V=>
  lineBytes_any _ _ N D c d V (Nat.le_trans (cwL_le _ _ _ _) hW.2) (Nat.le_trans (chL_le _ _ _ _) hH.2) (fun h=>by
   rcases Nat.eq_zero_or_pos (chL lace W H p) with e | e
   ·exact e
   ·have:=cwL_pos (lace:=lace) (p:=p) hW.1 e
    omega) hd hN hD
 have HOS:Hid (∀ p,p≤7→offP (cwL lace W H) (chL lace W H) N D p≤7 * 4824):=fun p hp=>Nat.le_trans (offP_small hW.2 hH.2 hN4 hD16 p) (Nat.mul_le_mul_right _ hp)
 have HOF:Hid (∀ p,offP (cwL lace W H) (chL lace W H) N D (p+1)=offP (cwL lace W H) (chL lace W H) N D p+chL lace W H p * (rb (cwL lace W H p * N) D+1)):=fun p=>rfl
 have HO0:Hid (offP (cwL lace W H) (chL lace W H) N D 0=0):=rfl
 have HG:=hid_of hG
 unfold scanN
 clear hG hd hN hD
 cases lace with
 | false=>
  have hl:=fun V=>HLB.out 0 V
  have HE:Hid (offP (cwL false W H) (chL false W H) N D (cntL false)=chL false W H 0 * (rb (cwL false W H 0 * N) D+1)):=by
   show offP (cwL false W H) (chL false W H) N D 1=_
   rw[HOF.out,HO0.out,Nat.zero_add]
  rw[HE.out]
  generalize chL false W H 0 * (rb (cwL false W H 0 * N) D+1)=Q at hl
  have e1:((cwL false W H 0:Nat):Int)=(W:Int):=rfl
  have e2:((chL false W H 0:Nat):Int)=(H:Int):=rfl
  rw[e1,e2] at hl
  clear HLB HOS HOF HO0 HE e1 e2
  go_enter Tryd.func12,Tryd.ntmps12
  go_wp2_with fail
  refine (h1 _).mono ?_
  rintro e w1 ⟨rfl,rfl⟩
  go_wp2_with fail
  refine (h2 _).mono ?_
  rintro e w2 ⟨rfl,rfl⟩
  go_wp2_with fail
  refine (h3 _).mono ?_
  rintro e w3 ⟨rfl,hB3⟩
  have HB3:=hid_of hB3
  clear hB3
  go_wp2_with fail
  refine (hl _).mono ?_
  rintro e w4 ⟨rfl,hB4⟩
  have HB4:=hid_of (bnext HB3.out hB4)
  clear hB4
  go_wp2_with fail
  go_ret
  exact⟨rfl,HB4.out⟩
 | true=>
  have HPS:Hid (∀ (p:Nat) (V:World),p < 7→GridG V→Calls Tryd.prog 34 #[.int .i64 (W:Int),.int .i64 (H:Int),.int .i64 (p:Int)] V fun e w'=>e=.returned (.tuple #[.int .i64 (cwL true W H p:Int),.int .i64 (chL true W H p:Int)])∧Below V.heap.size V w'):=fun p V hp hV=>by
   have h:=passSize_any (W:Int) (H:Int) (p:Int) V hV
   obtain⟨e1,e2⟩:=wideV_nat hW hH hp
   rw[e1,e2] at h
   exact h
  have HE:Hid (cntL true=7):=rfl
  generalize offP (cwL true W H) (chL true W H) N D=OF at *
  generalize cwL true W H=cw at *
  generalize chL true W H=ch at *
  rw[HE.out]
  go_enter Tryd.func12,Tryd.ntmps12
  go_wp2_with fail
  refine (h1 _).mono ?_
  rintro e w1 ⟨rfl,rfl⟩
  go_wp2_with fail
  refine (h2 _).mono ?_
  rintro e w2 ⟨rfl,rfl⟩
  go_wp2_with fail
  refine (h3 _).mono ?_
  rintro e w3 ⟨rfl,hB3⟩
  have HB3:=hid_of hB3
  clear hB3 h1 h2 h3
  go_wp2_with fail
  go_loopw [11,36] (fun v i w'=>∃ p:Nat,p≤7∧i=.int .i64 (p:Int)∧v=.int .i64 (OF p:Int)∧Hid (Below w2.heap.size w2 w')) (fun _ i _=>7 - (intOf i).toNat)
  case atStart=>exact⟨0,by omega,rfl,by rw [HO0.out]; rfl,HB3⟩
  case round=>
   obtain⟨p,hp,rfl,rfl,hS⟩:=hrel
   by_cases hlt:p < 7
   ·have dl:decide ((p:Int) < 7)=true:=decide_eq_true (by omega)
    have hps:=HPS.out p wr hlt (HG.out.called hS.out)
    have hlb:=HLB.out p
    have HN:=hid_of (HOF.out p)
    have hos:=HOS.out (p+1) (by omega)
    rw[HN.out] at hos
    generalize ch p * (rb (cw p * N) D+1)=q at *
    generalize OF p=o at *
    go_wp2_with fail
    refine hps.mono ?_
    rintro e w4 ⟨rfl,hB4⟩
    have HB4:=hid_of (bnext hS.out hB4)
    clear hB4
    go_wp2_with fail
    refine (hlb _).mono ?_
    rintro e w5 ⟨rfl,hB5⟩
    have HB5:=hid_of (bnext HB4.out hB5)
    clear hB5
    go_wp2_with fail
    go_roundw
    case rel=>exact⟨p+1,by omega,by go_num,by rw [HN.out]; go_num,HB5⟩
    case measure=>simp [intOf]; omega
   ·obtain rfl:p=7:=by omega
    go_wp2_with fail
    go_ret
    exact⟨rfl,hS.out⟩
theorem implScanBytes_out (W H c d:Int) (lace:Bool) (w:World) (h:¬ (SideR W∧SideR H∧DepthR c d)):
  Calls Tryd.prog 12 #[.int .i64 W,.int .i64 H,.int .i64 c,.int .i64 d,.bool lace] w fun e w'=>e=.returned (.int .i64 0)∧Below w.heap.size w w':=by
 have h1:=isSide_any W
 have h2:=isSide_any H
 have h3:=implDepth c d
 by_cases k1:SideR W
 ·rw[decide_eq_true k1] at h1
  by_cases k2:SideR H
  ·rw[decide_eq_true k2] at h2
   rw[decide_eq_false (fun k3=>h ⟨k1,k2,k3⟩)] at h3
   clear h k1 k2
   go_enter Tryd.func12,Tryd.ntmps12
   go_wp2_with fail
   refine (h1 _).mono ?_
   rintro e w1 ⟨rfl,rfl⟩
   go_wp2_with fail
   refine (h2 _).mono ?_
   rintro e w2 ⟨rfl,rfl⟩
   go_wp2_with fail
   refine (h3 _).mono ?_
   rintro e w3 ⟨rfl,hB3⟩
   have HB3:=hid_of hB3
   clear hB3
   go_wp2_with fail
   go_ret
   exact⟨rfl,HB3.out⟩
  ·rw[decide_eq_false k2] at h2
   clear h k1 k2
   go_enter Tryd.func12,Tryd.ntmps12
   go_wp2_with fail
   refine (h1 _).mono ?_
   rintro e w1 ⟨rfl,rfl⟩
   go_wp2_with fail
   refine (h2 _).mono ?_
   rintro e w2 ⟨rfl,rfl⟩
   go_wp2_with fail
   go_ret
   exact⟨rfl,Below.refl _ _⟩
 ·rw[decide_eq_false k1] at h1
  clear h k1
  go_enter Tryd.func12,Tryd.ntmps12
  go_wp2_with fail
  refine (h1 _).mono ?_
  rintro e w1 ⟨rfl,rfl⟩
  go_wp2_with fail
  go_ret
  exact⟨rfl,Below.refl _ _⟩
theorem scanBytes_answer:ScanBytesAnswer:=by
 intro W H c d lace w hw1 hw2 hw3 hw4 hG
 unfold scanB
 by_cases h:SideR W∧SideR H∧DepthR c d
 ·rw[if_pos h]
  obtain⟨h1,h2,h3⟩:=h
  have hc:=chan_range c
  have h5:=five_range (depth_five h3)
  obtain⟨W',rfl⟩:=Int.eq_ofNat_of_zero_le (show 0≤W by have:=h1.1; omega)
  obtain⟨H',rfl⟩:=Int.eq_ofNat_of_zero_le (show 0≤H by have:=h2.1; omega)
  have b1:=h1.1
  have b2:=h1.2
  have b3:=h2.1
  have b4:=h2.2
  rw[Int.toNat_natCast,Int.toNat_natCast]
  exact implScanBytes_in W' H' (chan c).toNat d.toNat c d lace w ⟨by omega,by omega⟩ ⟨by omega,by omega⟩ h3 (by omega) (by omega) hG
 ·rw[if_neg h]
  exact implScanBytes_out W H c d lace w h
end
end Go.Proofs.YtdpfnkcogneanaaDoor
