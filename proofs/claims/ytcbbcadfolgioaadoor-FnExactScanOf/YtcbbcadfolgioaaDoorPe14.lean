/-
  Texts of the proof, put together.
-/
import Derived.Test.YtcbbcadfolgioaaDoorPe13
namespace Go.Proofs.YtcbbcadfolgioaaDoor
section
open Go.RowKit Go.Joins OutMath TakeMath RastMath PassMath ScanMath
theorem str_app (xs ys:List Int):strOfNums (xs ++ ys)=strOfNums xs ++ strOfNums ys:=by
 unfold strOfNums
 rw[List.map_append]
 apply ByteArray.ext
 simp
theorem specParts (lace:Bool) (W H N:Nat) (c d:Int) (a:Option Addr) (cap:Nat) (f:Nat→Int) (w:World) (hW:1≤W∧W≤24) (hH:1≤H∧H≤24) (hN:chan c=(N:Int)) (hN1:1≤N∧N≤4) (hC:Came w a (W * H * N) f) (hcap:W * H * N≤cap) (hcm:cap≤maxLen):
  Calls Tryd.prog 63 #[.agg #[.int .i64 (W:Int),.int .i64 (H:Int),.int .i64 c,.int .i64 d,.slice a (W * H * N) cap],.bool lace] w fun e w'=>∃ a' c',e=.returned (.slice a' (cntL lace) c')∧RCame w' a' (cntL lace) (partR lace W H c d N f)∧Below w.heap.size w w':=by
 cases lace with
 | true=>
  have HB:=hid_of (bstart w (.cells #[.int .i64 (W:Int),.int .i64 (H:Int),.int .i64 c,.int .i64 d,.slice a (W * H * N) cap] 26))
  have hp:=hid_of (specPasses W H N c d a cap f _ hW hH hN hN1 (hC.called HB.out) hcap hcm)
  rw[partR_lace]
  show Calls _ _ _ _ fun e w'=>∃ a' c',e=.returned (.slice a' 7 c')∧RCame w' a' 7 (passR W H c d N f)∧Below w.heap.size w w'
  generalize passR W H c d N f=R at hp ⊢
  clear hC hcap hcm
  generalize W * H * N=T at *
  go_enter Tryd.func63,Tryd.ntmps63
  go_wp2_with fail
  refine hp.out.mono ?_
  rintro e w1 ⟨a1,c1,rfl,hR,hB1⟩
  have HR:=hid_of hR
  have HB1:=hid_of (bnext HB.out hB1)
  clear hR hB1
  go_wp2_with fail
  go_ret
  exact⟨_,_,rfl,HR.out,HB1.out⟩
 | false=>
  have HB:=hid_of (bal (bstart w (.cells #[.int .i64 (W:Int),.int .i64 (H:Int),.int .i64 c,.int .i64 d,.slice a (W * H * N) cap] 26)) (.cells #[.int .i64 (W:Int),.int .i64 (H:Int),.int .i64 c,.int .i64 d,.slice a (W * H * N) cap] 26))
  have HX:Hid (((w.alloc (.cells #[.int .i64 (W:Int),.int .i64 (H:Int),.int .i64 c,.int .i64 d,.slice a (W * H * N) cap] 26)).alloc (.cells #[.int .i64 (W:Int),.int .i64 (H:Int),.int .i64 c,.int .i64 d,.slice a (W * H * N) cap] 26)).heap[w.heap.size+1]?=some (.cells #[.int .i64 (W:Int),.int .i64 (H:Int),.int .i64 c,.int .i64 d,.slice a (W * H * N) cap] 26 (0,0))):=by
   have:=heap_alloc_new (w.alloc (.cells #[.int .i64 (W:Int),.int .i64 (H:Int),.int .i64 c,.int .i64 d,.slice a (W * H * N) cap] 26)) (.cells #[.int .i64 (W:Int),.int .i64 (H:Int),.int .i64 c,.int .i64 d,.slice a (W * H * N) cap] 26)
   rw[show (w.alloc (.cells #[.int .i64 (W:Int),.int .i64 (H:Int),.int .i64 c,.int .i64 d,.slice a (W * H * N) cap] 26)).heap.size=w.heap.size+1 by simp] at this
   exact this
  have HC:=hid_of hC
  have HCC:=hid_of (And.intro hcap hcm)
  show Calls _ _ _ _ fun e w'=>∃ a' c',e=.returned (.slice a' 1 c')∧RCame w' a' 1 (partR false W H c d N f)∧Below w.heap.size w w'
  have HPR:Hid (partR false W H c d N f 0=⟨(W:Int),(H:Int),c,d,W * H * N,f⟩):=rfl
  generalize partR false W H c d N f=PR at *
  clear hC hcap hcm
  generalize W * H * N=T at *
  go_enter Tryd.func63,Tryd.ntmps63
  go_wp2_with fail
  go_ret
  refine⟨_,_,rfl,.inr ⟨w.heap.size+1,0,fun _=>a,fun _=>cap,rfl,block_lt HX.out,fun j hj=>?_⟩,HB.out⟩
  obtain rfl:j=0:=by omega
  obtain⟨k0,k1,k2,k3,k4,_⟩:=ras_five HX.out
  rw[HPR.out]
  exact⟨⟨k0,k1,k2,k3,k4⟩,HC.out.called HB.out,HCC.out.1,HCC.out.2⟩
theorem partsL_small {L:Nat→List Int} {K B:Nat} (h:∀ p,p < K→(L p).length≤B):∀ p,p≤K→(partsL L p).length≤p * B
 | 0,_=>by simp [partsL]
 | p+1,hp=>by
  have ih:=partsL_small h p (by omega)
  have:=h p (by omega)
  rw[partsL_succ,List.length_append,Nat.add_mul,Nat.one_mul]
  omega
theorem scanL_small {lace:Bool} {W H N D:Nat} {way:Int} {f:Nat→Int} (hway:0≤way∧way≤5) (hW:W≤24) (hH:H≤24) (hN:N≤4) (hD:D≤16) (p:Nat):(scanL lace way W H N D f p).length≤4824:=by
 rw[scanL_length hway hW hN hD]
 exact Nat.mul_le_mul (Nat.le_trans (chL_le _ _ _ _) hH) (Nat.add_le_add_right (rb_small (part_s hW hN) hD) 1)
set_option maxHeartbeats 1600000 in
theorem specScanOf_no (x0 x1 x2 x3:Int) (a:Option Addr) (n cap:Nat) (f:Nat→Int) (lace:Bool) (way:Int) (w:World) (hC:Came w a n f) (hn:n≤1048576) (hno:¬ (RasR x0 x1 x2 x3 n f∧0≤way∧way≤5)):
  Calls Tryd.prog 30 #[.agg #[.int .i64 x0,.int .i64 x1,.int .i64 x2,.int .i64 x3,.slice a n cap],.bool lace,.int .i64 way] w fun e w'=>e=.returned (.tuple #[.string ⟨#[]⟩,.bool false])∧Below w.heap.size w w':=by
 have HB:=hid_of (bstart w (.cells #[.int .i64 x0,.int .i64 x1,.int .i64 x2,.int .i64 x3,.slice a n cap] 26))
 have hR:=hid_of (specRaster x0 x1 x2 x3 a n cap f _ (hC.called HB.out) hn)
 by_cases hr:RasR x0 x1 x2 x3 n f
 ·have hw:¬ (0≤way∧way≤5):=fun h=>hno ⟨hr,h⟩
  have hin:=fun V=>in_no way 0 5 V hw
  have HR:Hid (Calls Tryd.prog 50 #[.agg #[.int .i64 x0,.int .i64 x1,.int .i64 x2,.int .i64 x3,.slice a n cap]] (w.alloc (.cells #[.int .i64 x0,.int .i64 x1,.int .i64 x2,.int .i64 x3,.slice a n cap] 26)) fun e w'=>e=.returned (.bool true)∧Below (w.alloc (.cells #[.int .i64 x0,.int .i64 x1,.int .i64 x2,.int .i64 x3,.slice a n cap] 26)).heap.size (w.alloc (.cells #[.int .i64 x0,.int .i64 x1,.int .i64 x2,.int .i64 x3,.slice a n cap] 26)) w'):=by
   refine hR.out.mono ?_
   rintro e w' ⟨b,rfl,hb,hB⟩
   cases b with
   | true=>exact⟨rfl,hB⟩
   | false=>exact absurd (hb.mpr hr) (by simp)
  clear hR hC hno hr hw
  go_enter Tryd.func30,Tryd.ntmps30
  go_wp2_with fail
  refine HR.out.mono ?_
  rintro e w1 ⟨rfl,hB1⟩
  have HB1:=hid_of (bnext HB.out hB1)
  clear hB1
  go_wp2_with fail
  refine (hin _).mono ?_
  rintro e w2 ⟨rfl,rfl⟩
  go_wp2_with fail
  refine bodyPost_ret (v:=.tuple #[.string ⟨#[]⟩,.bool false]) ?_ rfl ⟨rfl,HB1.out⟩
  simp[results,Tryd.results30,go_sem]
 ·have HR:Hid (Calls Tryd.prog 50 #[.agg #[.int .i64 x0,.int .i64 x1,.int .i64 x2,.int .i64 x3,.slice a n cap]] (w.alloc (.cells #[.int .i64 x0,.int .i64 x1,.int .i64 x2,.int .i64 x3,.slice a n cap] 26)) fun e w'=>e=.returned (.bool false)∧Below (w.alloc (.cells #[.int .i64 x0,.int .i64 x1,.int .i64 x2,.int .i64 x3,.slice a n cap] 26)).heap.size (w.alloc (.cells #[.int .i64 x0,.int .i64 x1,.int .i64 x2,.int .i64 x3,.slice a n cap] 26)) w'):=by
   refine hR.out.mono ?_
   rintro e w' ⟨b,rfl,hb,hB⟩
   cases b with
   | true=>exact absurd (hb.mp rfl) hr
   | false=>exact⟨rfl,hB⟩
  clear hR hC hno hr
  go_enter Tryd.func30,Tryd.ntmps30
  go_wp2_with fail
  refine HR.out.mono ?_
  rintro e w1 ⟨rfl,hB1⟩
  have HB1:=hid_of (bnext HB.out hB1)
  clear hB1
  go_wp2_with fail
  refine bodyPost_ret (v:=.tuple #[.string ⟨#[]⟩,.bool false]) ?_ rfl ⟨rfl,HB1.out⟩
  simp[results,Tryd.results30,go_sem]
set_option maxRecDepth 100000 in
set_option maxHeartbeats 6400000 in
theorem specScanOf_yes (W H N D:Nat) (c:Int) (a:Option Addr) (cap:Nat) (f:Nat→Int) (lace:Bool) (way:Int) (w:World) (hW:1≤W∧W≤24) (hH:1≤H∧H≤24) (hN:chan c=(N:Int)) (hN1:1≤N∧N≤4) (hC:Came w a (W * H * N) f) (hcap:W * H * N≤cap) (hcm:cap≤maxLen) (hok:RasR (W:Int) (H:Int) c (D:Int) (W * H * N) f) (hway:0≤way∧way≤5):
  Calls Tryd.prog 30 #[.agg #[.int .i64 (W:Int),.int .i64 (H:Int),.int .i64 c,.int .i64 (D:Int),.slice a (W * H * N) cap],.bool lace,.int .i64 way] w fun e w'=>e=.returned (.tuple #[.string (scanT lace way W H N D f),.bool true])∧Below w.heap.size w w':=by
 have HB:=hid_of (bstart w (.cells #[.int .i64 (W:Int),.int .i64 (H:Int),.int .i64 c,.int .i64 (D:Int),.slice a (W * H * N) cap] 26))
 have HX:Hid ((w.alloc (.cells #[.int .i64 (W:Int),.int .i64 (H:Int),.int .i64 c,.int .i64 (D:Int),.slice a (W * H * N) cap] 26)).heap[w.heap.size]?=some (.cells #[.int .i64 (W:Int),.int .i64 (H:Int),.int .i64 c,.int .i64 (D:Int),.slice a (W * H * N) cap] 26 (0,0))):=heap_alloc_new w _
 have hTle:W * H * N≤2304:=by
  have h1:=Nat.mul_le_mul hW.2 hH.2
  have h2:=Nat.mul_le_mul h1 hN1.2
  exact Nat.le_trans h2 (by omega)
 have hdep:DepthR c (D:Int):=hok.2.2.1
 have hfit:Fit12 f (W * H * N) D:=hok.2.2.2.2
 have HR:Hid (Calls Tryd.prog 50 #[.agg #[.int .i64 (W:Int),.int .i64 (H:Int),.int .i64 c,.int .i64 (D:Int),.slice a (W * H * N) cap]] (w.alloc (.cells #[.int .i64 (W:Int),.int .i64 (H:Int),.int .i64 c,.int .i64 (D:Int),.slice a (W * H * N) cap] 26)) fun e w'=>e=.returned (.bool true)∧Below (w.alloc (.cells #[.int .i64 (W:Int),.int .i64 (H:Int),.int .i64 c,.int .i64 (D:Int),.slice a (W * H * N) cap] 26)).heap.size (w.alloc (.cells #[.int .i64 (W:Int),.int .i64 (H:Int),.int .i64 c,.int .i64 (D:Int),.slice a (W * H * N) cap] 26)) w'):=by
  refine (specRaster (W:Int) (H:Int) c (D:Int) a (W * H * N) cap f _ (hC.called HB.out) (by omega)).mono ?_
  rintro e w' ⟨b,rfl,hb,hB⟩
  cases b with
  | true=>exact⟨rfl,hB⟩
  | false=>exact absurd (hb.mpr hok) (by simp)
 have hin:=fun V=>in_yes way 0 5 V hway.1 hway.2
 have HP:Hid (∀ V,Below w.heap.size w V→Calls Tryd.prog 63 #[.agg #[.int .i64 (W:Int),.int .i64 (H:Int),.int .i64 c,.int .i64 (D:Int),.slice a (W * H * N) cap],.bool lace] V fun e w'=>∃ a' c',e=.returned (.slice a' (cntL lace) c')∧RCame w' a' (cntL lace) (partR lace W H c (D:Int) N f)∧Below V.heap.size V w'):=fun V hV=>specParts lace W H N c (D:Int) a cap f V hW hH hN hN1 (hC.called hV) hcap hcm
 have HRW:Hid (∀ p,p < cntL lace→∀ (a':Option Addr) (c':Nat) (V:World),Came V a' (partR lace W H c (D:Int) N f p).n (partR lace W H c (D:Int) N f p).f→(partR lace W H c (D:Int) N f p).n≤c'→c'≤maxLen→Calls Tryd.prog 64 #[rasA (partR lace W H c (D:Int) N f p) a' c',.int .i64 way] V fun e w'=>e=.returned (.string (strOfNums (scanL lace way W H N D f p)))∧Below V.heap.size V w'):=fun p hp a' c' V hV h1 h2=>
  specRows (cwL lace W H p) (chL lace W H p) N D c way a' c' (fL lace W H N f p) V (Nat.le_trans (cwL_le _ _ _ _) hW.2) (Nat.le_trans (chL_le _ _ _ _) hH.2) (fun h=>cwL_pos hW.1 h) hN hN1 (depth_five hdep) hway hV h1 h2 (fL_fit hN1.1 hp hfit)
 have HT:Hid (scanT lace way W H N D f=strOfNums (partsL (scanL lace way W H N D f) (cntL lace))):=rfl
 have hcnt:=cntL_le lace
 have hD16:D≤16:=by have:=five_range (depth_five hdep); omega
 have HSZ:Hid (∀ p,p < cntL lace→(scanL lace way W H N D f p).length≤4824∧(partsL (scanL lace way W H N D f) p).length≤7 * 4824):=fun p hp=>⟨scanL_small hway hW.2 hH.2 hN1.2 hD16 p,Nat.le_trans (partsL_small (K:=cntL lace) (fun q _=>scanL_small hway hW.2 hH.2 hN1.2 hD16 q) p (by omega)) (Nat.mul_le_mul_right _ (by omega))⟩
 generalize scanT lace way W H N D f=ST at *
 generalize scanL lace way W H N D f=SL at *
 generalize partR lace W H c (D:Int) N f=PR at *
 generalize cntL lace=K at *
 clear hok hdep hfit hC hcap hcm hN
 generalize W * H * N=T at *
 go_enter Tryd.func30,Tryd.ntmps30
 go_wp2_with fail
 generalize w.alloc (.cells #[.int .i64 (W:Int),.int .i64 (H:Int),.int .i64 c,.int .i64 (D:Int),.slice a T cap] 26)=W1 at HX HB HR ⊢
 refine HR.out.mono ?_
 rintro e w1 ⟨rfl,hB1⟩
 have HB1:=hid_of (bnext HB.out hB1)
 have HX1:=hid_of ((hB1.block _ (block_lt HX.out)).trans HX.out)
 clear hB1 HB HX HR
 go_wp2_with fail
 refine (hin _).mono ?_
 rintro e w2 ⟨rfl,rfl⟩
 obtain⟨k0,k1,k2,k3,k4,lx⟩:=ras_five HX1.out
 go_wp2_with fail
 refine (HP.out w2 HB1.out).mono ?_
 rintro e w3 ⟨a3,c3,rfl,hR3,hB3⟩
 have HR3:=hid_of hR3
 have HB3:=hid_of (bnext HB1.out hB3)
 clear hR3 hB3 HX1 HB1 k0 k1 k2 k3 k4 lx HP hin
 go_wp2_with fail
 go_loopg [9,10] 8 (fun gk v i w'=>∃ p:Nat,p≤K∧K - p≤gk∧v=.string (strOfNums (partsL SL p))∧i=.int .i64 (p:Int)∧Hid (Below w3.heap.size w3 w'))
 case atStart=>exact⟨0,Nat.zero_le _,by omega,rfl,rfl,Below.refl _ _⟩
 case round=>
  obtain⟨p,hp,hgk,rfl,rfl,hI⟩:=hrel
  by_cases hlt:p < K
  ·have dl:decide ((p:Int) < (K:Int))=true:=decide_eq_true (by omega)
   have x7:(p:Int) < (K:Int):=by omega
   rcases HR3.out.called hI.out with q | ⟨g,off,A,C,rfl,hg,hc⟩
   ·omega
   obtain⟨⟨l0,l1,l2,l3,l4⟩,hcm,hn1,hn2⟩:=hc p hlt
   have hrow:=HRW.out p hlt (A p) (C p) wr hcm hn1 hn2
   have HST:Hid (strOfNums (partsL SL (p+1))=strOfNums (partsL SL p) ++ strOfNums (SL p)):=by
    show strOfNums (partsL SL (p+1))=_
    rw[partsL_succ,str_app]
   have hcc:(strOfNums (partsL SL p)).size+(strOfNums (SL p)).size≤9223372036854775807:=by
    obtain⟨q1,q2⟩:=HSZ.out p hlt
    rw[strOfNums_size,strOfNums_size]
    omega
   clear hcm hn1 hn2 hc
   have hrow2:Calls Tryd.prog 64 #[.agg #[.int .i64 (PR p).x0,.int .i64 (PR p).x1,.int .i64 (PR p).x2,.int .i64 (PR p).x3,.slice (A p) (PR p).n (C p)],.int .i64 way] wr fun e w'=>e=.returned (.string (strOfNums (SL p)))∧Below wr.heap.size wr w':=hrow
   clear hrow
   generalize strOfNums (partsL SL p)=S0 at *
   generalize strOfNums (SL p)=S1 at *
   generalize (PR p).x0=r0 at *
   generalize (PR p).x1=r1 at *
   generalize (PR p).x2=r2 at *
   generalize (PR p).x3=r3 at *
   generalize (PR p).n=rn at *
   generalize A p=ap at *
   generalize C p=cp at *
   go_wp2_with fail
   refine hrow2.mono ?_
   rintro e w4 ⟨rfl,hB4⟩
   have HB4:=hid_of (bnext hI.out hB4)
   clear hB4 hI hrow2 l0 l1 l2 l3 l4
   go_wp2_with fail
   go_roundg (K - (p+1))
   case measure=>omega
   case rel=>exact⟨p+1,by omega,Nat.le_refl _,by rw [HST.out],by go_num,HB4⟩
  ·obtain rfl:p=K:=by omega
   go_wp2_with fail
   refine bodyPost_ret (v:=.tuple #[.string (strOfNums (partsL SL p)),.bool true]) ?_ rfl ⟨by rw [HT.out],bnext HB3.out hI.out⟩
   simp[results,Tryd.results30,go_sem]
end
section
open ScanMath
theorem offP_small {lace:Bool} {W H N D:Nat} (hW:W≤24) (hH:H≤24) (hN:N≤4) (hD:D≤16):∀ p,offP (cwL lace W H) (chL lace W H) N D p≤p * 4824
 | 0=>by simp [offP]
 | p+1=>by
  have ih:=offP_small (lace:=lace) hW hH hN hD p
  have:chL lace W H p * (rb (cwL lace W H p * N) D+1)≤24 * 201:=Nat.mul_le_mul (Nat.le_trans (chL_le _ _ _ _) hH) (Nat.add_le_add_right (rb_small (part_s hW hN) hD) 1)
  rw[offP_succ,Nat.add_mul,Nat.one_mul]
  omega
end
section
open Go.RowKit Go.Joins RastMath PassMath ScanMath
theorem rowB_rb {w N D:Nat} {c d:Int} (hw:1≤w∧w≤24) (hd:DepthR c d) (hN:chan c=(N:Int)) (hD:d=(D:Int)):rowB (w:Int) c d=(rb (w * N) D:Int):=by
 unfold rowB rb
 rw[if_pos ⟨⟨by omega,by omega⟩,hd⟩,hN,hD]
 simp
end
end Go.Proofs.YtcbbcadfolgioaaDoor
