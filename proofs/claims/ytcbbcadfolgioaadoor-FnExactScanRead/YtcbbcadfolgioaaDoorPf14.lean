/-
  Texts of the proof, put together.
-/
import Derived.Test.YtcbbcadfolgioaaDoorPf12
import Derived.Test.YtcbbcadfolgioaaDoorPf13
namespace Go.Proofs.YtcbbcadfolgioaaDoor
open Go.RowKit Go.Joins OutMath TakeMath RastMath FiltMath PassMath ScanMath
abbrev ras0:Value:=.agg #[.int .i64 0,.int .i64 0,.int .i64 0,.int .i64 0,.slice none 0 0]
theorem scanN_pos {lace:Bool} {W H N D:Nat} (hW:1≤W∧W≤24) (hH:1≤H∧H≤24):1≤scanN lace W H N D:=by
 have h1:1≤chL lace W H 0:=by
  unfold chL
  split
  ·unfold ph
   have e1:cntP W (px 0) (pdx 0)=(W - 0 - 1) / 8+1:=by
    unfold cntP
    rw[if_pos (show px 0 < W by show 0 < W; omega)]
    rfl
   have e2:cntP H (py 0) (pdy 0)=(H - 0 - 1) / 8+1:=by
    unfold cntP
    rw[if_pos (show py 0 < H by show 0 < H; omega)]
    rfl
   rw[if_neg (by omega),e2]
   omega
  ·exact hH.1
 have h2:offP (cwL lace W H) (chL lace W H) N D 1≤scanN lace W H N D:=offP_mono (by unfold cntL; split <;> omega)
 rw[offP_succ] at h2
 have h3:1≤chL lace W H 0 * (rb (cwL lace W H 0 * N) D+1):=Nat.mul_pos h1 (by omega)
 omega
theorem info_num15:(Tryd.prog.info? 3).map (fun i=>(i.zero,i.size,i.bytes))=some (some (.int .i64 0),1,8):=by kernel_rfl
def ReadPost (t:ByteArray) (lace:Bool) (W H:Nat) (c:Int) (N D:Nat) (w:World) (e:Ending) (w':World):Prop:=
 Below w.heap.size w w'∧((kindsR t lace W H N D∧∃ a' c',e=.returned (.tuple #[rasA (readAll t lace W H c (D:Int) N D) a' c',.int .i64 0])∧Came w' a' (readAll t lace W H c (D:Int) N D).n (readAll t lace W H c (D:Int) N D).f)∨(¬ kindsR t lace W H N D∧e=.returned (.tuple #[ras0,.int .i64 2])))
theorem below_app {w4 w1 w5 w6:World} {o:Obj} {gl:Nat} (h1:Below w4.heap.size w4 w1) (h2:Below w1.heap.size w1 w5) (h3:(w5.alloc o).grownBy w6 (some gl)) (h4:w4.heap.size≤gl):Below w4.heap.size w4 w6:=by
 have h:=bal (bnext h1 h2) o
 exact⟨h3.os.trans h.os,h3.tape.trans h.tape,h3.output.trans h.output,Nat.le_trans h.size h3.size,fun b hb=>(h3.block b (Nat.lt_of_lt_of_le hb h.size) (fun e=>by have:=Option.some.inj e; omega)).trans (h.block b hb)⟩
set_option maxRecDepth 100000 in
set_option maxHeartbeats 12800000 in
theorem specScanRead_in (t:ByteArray) (W H N D:Nat) (c:Int) (lace:Bool) (w:World) (hW:1≤W∧W≤24) (hH:1≤H∧H≤24) (hd:DepthR c (D:Int)) (hN:chan c=(N:Int)) (hs:t.size=scanN lace W H N D):
  Calls Tryd.prog 31 #[.string t,.int .i64 (W:Int),.int .i64 (H:Int),.int .i64 c,.int .i64 (D:Int),.bool lace] w (ReadPost t lace W H c N D w):=by
 have hN1:1≤N∧N≤4:=by have:=chan_pos hd; have:=(chan_range c).2; omega
 have h5:=five_range (depth_five hd)
 have hD16:1≤D∧D≤16:=by omega
 have hu:=unitN_range hN1.2 hD16.2
 have hb0:t.size≤7 * 4824:=by rw [hs]; exact Nat.le_trans (offP_small hW.2 hH.2 hN1.2 hD16.2 _) (Nat.mul_le_mul_right _ (cntL_le lace))
 have hb1:1≤t.size:=by rw [hs]; exact scanN_pos hW hH
 have hby:=specScanBytes_in W H N D c (D:Int) lace w hW hH hd hN rfl
 rw[← hs] at hby
 have hsz:=fun V=>specSizes lace W H V hW hH
 have hch:=fun Z=>specChannels c Z
 rw[hN] at hch
 have hun:=fun Z=>specUnit c N D Z hN hN1.2 hD16.2
 have HRB:Hid (∀ p V,Calls Tryd.prog 67 #[.int .i64 (cwL lace W H p:Int),.int .i64 c,.int .i64 (D:Int)] V fun e w'=>e=.returned (.int .i64 (rb (cwL lace W H p * N) D:Int))∧w'=V):=fun p V=>by
  have:=specRowBytes (cwL lace W H p:Int) c (D:Int) V
  rcases Nat.eq_zero_or_pos (cwL lace W H p) with e | e
  ·rw[e] at this ⊢
   rw[show rb (0 * N) D=0 by unfold rb; simp]
   rw[show rowB ((0:Nat):Int) c (D:Int)=((0:Nat):Int) from rowB_zero] at this
   exact this
  ·rw[rowB_rb ⟨e,Nat.le_trans (cwL_le _ _ _ _) hW.2⟩ hd hN rfl] at this
   exact this
 have HZR:Hid (∀ p V,Calls Tryd.prog 68 #[.int .i64 (rb (cwL lace W H p * N) D:Int),.int .u8 0] V fun e w'=>e=.returned (.string (zeroT (rb (cwL lace W H p * N) D)))∧Below V.heap.size V w'):=fun p V=>specZeros _ V (Nat.le_trans (rb_small (part_s hW.2 hN1.2) hD16.2) (by omega))
 have HBD:Hid (∀ p,rb (cwL lace W H p * N) D≤200∧chL lace W H p≤24∧cwL lace W H p * N≤96∧cwL lace W H p≤24):=fun p=>⟨rb_small (part_s hW.2 hN1.2) hD16.2,Nat.le_trans (chL_le _ _ _ _) hH.2,part_s hW.2 hN1.2,Nat.le_trans (cwL_le _ _ _ _) hW.2⟩
 have HOF:Hid (∀ p,p < cntL lace→offP (cwL lace W H) (chL lace W H) N D (p+1)=offP (cwL lace W H) (chL lace W H) N D p+chL lace W H p * (rb (cwL lace W H p * N) D+1)∧offP (cwL lace W H) (chL lace W H) N D p+chL lace W H p * (rb (cwL lace W H p * N) D+1)≤t.size):=fun p hp=>⟨rfl,by rw [hs]; exact offP_mono (p:=p+1) (by omega)⟩
 have HO0:Hid (offP (cwL lace W H) (chL lace W H) N D 0=0):=rfl
 have HPS:Hid (∀ p,1≤chL lace W H p→1≤cwL lace W H p * N):=fun p h=>Nat.mul_pos (cwL_pos hW.1 h) hN1.1
 have HUN:Hid (∀ (k:Int) (row above:ByteArray) V,row.size≤200→Calls Tryd.prog 69 #[.int .i64 k,.string row,.string above,.int .i64 (unitN N D:Int)] V fun e w'=>e=.returned (.tuple #[.string (unfV k row above (unitN N D:Int)),.bool (decide (FiltR k row above (unitN N D:Int)))])∧Below V.heap.size V w'):=fun k row above V h=>specUnfilter k row above _ V (by omega)
 have HUP:Hid (∀ (s:ByteArray) (n:Nat) V,n≤96→s.size=rb n D→Calls Tryd.prog 71 #[.string s,.int .i64 (n:Int),.int .i64 (D:Int)] V fun e w'=>∃ v,e=.returned (.tuple #[v,.bool true])∧NumRow w' V.heap.size v (smps s D n)∧Below V.heap.size V w'):=fun s n V h1 h2=>specUnpack_good s n D V (depth_five hd) h1 (by rw [h2]; unfold rb; simp)
 have HFR:Hid (lace=true→FromR (W:Int) (H:Int) 7 (readR t lace W H c (D:Int) N D)):=fun e=>by
  subst e
  exact read_from t hW hH hN hd rfl
 have HRA:Hid ((lace=true→readAll t lace W H c (D:Int) N D=joinR (W:Int) (H:Int) (readR t lace W H c (D:Int) N D))∧(lace=false→readAll t lace W H c (D:Int) N D=readR t lace W H c (D:Int) N D 0)):=⟨fun e=>by subst e; rfl,fun e=>by subst e; rfl⟩
 have HRS:Hid (∀ j,(readR t lace W H c (D:Int) N D j).n≤1048576):=fun j=>by
  have h1:cwL lace W H j * chL lace W H j * N≤24 * 24 * 4:=Nat.mul_le_mul (Nat.mul_le_mul (Nat.le_trans (cwL_le _ _ _ _) hW.2) (Nat.le_trans (chL_le _ _ _ _) hH.2)) hN1.2
  show cwL lace W H j * chL lace W H j * N≤1048576
  omega
 have HRR:Hid (∀ p,readR t lace W H c (D:Int) N D p=⟨(cwL lace W H p:Int),(chL lace W H p:Int),c,(D:Int),cwL lace W H p * chL lace W H p * N,rsmp t (offP (cwL lace W H) (chL lace W H) N D p) (cwL lace W H p * N) D (unitN N D)⟩):=fun p=>rfl
 have HKD:Hid (kindsR t lace W H N D↔∀ p,p < cntL lace→∀ j,j < chL lace W H p→bts t (offP (cwL lace W H) (chL lace W H) N D p+j * (rb (cwL lace W H p * N) D+1))≤4):=Iff.rfl
 have HKK:Hid ((lace=true∧cntL lace=7)∨(lace=false∧cntL lace=1)):=by
  cases lace with
  | true=>exact .inl ⟨rfl,rfl⟩
  | false=>exact .inr ⟨rfl,rfl⟩
 have hcnt:=cntL_le lace
 have HX0:Hid ((w.alloc (.cells #[.int .i64 0,.int .i64 0,.int .i64 0,.int .i64 0,.slice none 0 0] 26)).heap[w.heap.size]?=some (.cells #[.int .i64 0,.int .i64 0,.int .i64 0,.int .i64 0,.slice none 0 0] 26 (0,0))):=heap_alloc_new w _
 have HB0:=hid_of (bstart w (.cells #[.int .i64 0,.int .i64 0,.int .i64 0,.int .i64 0,.slice none 0 0] 26))
 have hby2:Calls Tryd.prog 65 #[.int .i64 (W:Int),.int .i64 (H:Int),.int .i64 c,.int .i64 (D:Int),.bool lace] (w.alloc (.cells #[.int .i64 0,.int .i64 0,.int .i64 0,.int .i64 0,.slice none 0 0] 26)) fun e w'=>e=.returned (.int .i64 (t.size:Int))∧Below (w.alloc (.cells #[.int .i64 0,.int .i64 0,.int .i64 0,.int .i64 0,.slice none 0 0] 26)).heap.size (w.alloc (.cells #[.int .i64 0,.int .i64 0,.int .i64 0,.int .i64 0,.slice none 0 0] 26)) w':=by
  have:=specScanBytes_in W H N D c (D:Int) lace (w.alloc (.cells #[.int .i64 0,.int .i64 0,.int .i64 0,.int .i64 0,.slice none 0 0] 26)) hW hH hd hN rfl
  rw[← hs] at this
  exact this
 have b0:((t.size:Int) == 0)=false:=by rw [beq_eq_false_iff_ne]; omega
 have bn:((t.size:Int) != (t.size:Int))=false:=by simp
 unfold ReadPost
 generalize readAll t lace W H c (D:Int) N D=RA at *
 generalize kindsR t lace W H N D=KD at *
 obtain⟨i0,hi0,hz0,hz1,hz2⟩:=info_parts info_ras14
 have HIN:=hid_of (And.intro hi0 (And.intro hz0 (And.intro hz1 hz2)))
 clear hi0 hz0 hz1 hz2 hby hd hN h5 hs
 go_enter Tryd.func31,Tryd.ntmps31
 go_wp2_with fail
 generalize w.alloc (.cells #[.int .i64 0,.int .i64 0,.int .i64 0,.int .i64 0,.slice none 0 0] 26)=W0 at HX0 HB0 hby2 ⊢
 refine hby2.mono ?_
 rintro e w1 ⟨rfl,hB1⟩
 have HX1:=hid_of ((hB1.block _ (block_lt HX0.out)).trans HX0.out)
 have HB1:=hid_of (bnext HB0.out hB1)
 clear hB1 hby2 HX0 HB0
 go_wp2_with fail
 refine (hsz w1).mono ?_
 rintro e w4 ⟨a4,c4,rfl,hS4,hB4⟩
 have HS4:=hid_of hS4
 have HX4:=hid_of ((hB4.block _ (block_lt HX1.out)).trans HX1.out)
 have HB4:=hid_of (bnext HB1.out hB4)
 clear hB4 hS4 hsz HX1 HB1
 have HP0:Hid (PtI w (w4.alloc (.cells #[] 26)) #[.int .i64 0,.int .i64 0,.int .i64 0,.int .i64 0,.slice none 0 0] (readR t lace W H c (D:Int) N D) w4.heap.size 0 0):=
  ⟨(Below.heap_alloc w4 _ _ (block_lt HX4.out)).trans HX4.out,⟨fun _=>none,fun _=>0,fun _=>0,⟨rfl,.inr ⟨w4.heap.size,0,#[],rfl,block_lt HX4.out,heap_alloc_new w4 _,Nat.le_refl _,Nat.zero_le _,rfl,rfl⟩⟩,fun j hj=>absurd hj (Nat.not_lt_zero j),fun j hj=>absurd hj (Nat.not_lt_zero j)⟩,bal HB4.out _⟩
 have HL0:=hid_of (bstart w4 (.cells #[] 26))
 go_wp2_with fail
 generalize w4.alloc (.cells #[] 26)=W5 at HP0 HL0 ⊢
 generalize hRR:readR t lace W H c (D:Int) N D=R at *
 generalize hOO:offP (cwL lace W H) (chL lace W H) N D=OF at *
 generalize hKq:cntL lace=K at *
 go_loopg [16,17,18] 8 (fun gk v a i w'=>∃ (p gl cl:Nat),p≤K∧K - p≤gk∧v=.slice (some ⟨gl,0,none⟩) p cl∧a=.int .i64 (OF p:Int)∧i=.int .i64 (p:Int)∧w4.heap.size≤gl∧Hid (PtI w w' #[.int .i64 0,.int .i64 0,.int .i64 0,.int .i64 0,.slice none 0 0] R gl cl p)∧Hid (Below w4.heap.size w4 w')∧Hid (∀ q,q < p→∀ j,j < chL lace W H q→bts t (OF q+j * (rb (cwL lace W H q * N) D+1))≤4))
 case atStart=>exact⟨0,w4.heap.size,0,Nat.zero_le _,by omega,rfl,by rw [HO0.out]; rfl,rfl,Nat.le_refl _,HP0,HL0,fun q hq=>absurd hq (Nat.not_lt_zero q)⟩
 case round=>
  clear HP0 HL0
  obtain⟨p,gl,cl,hp,hgk,rfl,rfl,rfl,hgl,hP,hL,hkd⟩:=hrel
  obtain⟨WH,hWH⟩:∃ WH,WH=wr:=⟨_,rfl⟩
  subst hWH
  by_cases hlt:p < K
  ·have dl:decide ((p:Int) < (K:Int))=true:=decide_eq_true (by omega)
   have x7:(p:Int) < (K:Int):=by omega
   obtain⟨gs,ha4,hgs,hcs⟩:=HS4.out.called hL.out
   subst ha4
   obtain⟨bs,l1,lb,l2,l3⟩:=hcs p hlt
   have hRp:=HRR.out p
   obtain⟨hof,hofs⟩:=HOF.out p hlt
   have hrb:=HRB.out p
   have hzr:=HZR.out p
   obtain⟨hbd1,hbd2,hbd3,hbd4⟩:=HBD.out p
   have hps:=HPS.out p
   have HKP:Hid (KD→∀ j,j < chL lace W H p→bts t (OF p+j * (rb (cwL lace W H p * N) D+1))≤4):=fun e j hj=>HKD.out.mp e p hlt j hj
   have HKC:Hid ((∀ j,j < chL lace W H p→bts t (OF p+j * (rb (cwL lace W H p * N) D+1))≤4)→∀ q,q < p+1→∀ j,j < chL lace W H q→bts t (OF q+j * (rb (cwL lace W H q * N) D+1))≤4):=fun h q hq=>by
    by_cases e:q=p
    ·subst e
     exact h
    ·exact hkd.out q (by omega)
   clear hcs
   generalize cwL lace W H p=CW at *
   generalize chL lace W H p=CH at *
   obtain⟨s,hsq⟩:∃ s,s=CW * N:=⟨_,rfl⟩
   have m1:(CW:Int) * (N:Int)=(s:Int):=by rw [hsq]; simp
   rw[← hsq] at hRp hof hofs hrb hzr hbd1 hbd3 hps HKP HKC
   have HRN:Hid ((R p).n=CH * s):=by
    show (R p).n=CH * s
    rw[hRp,hsq]
    show CW * CH * N=CH * (CW * N)
    rw[Nat.mul_comm CW CH,Nat.mul_assoc]
   have HRX:Hid ((R p).x0=(CW:Int)∧(R p).x1=(CH:Int)∧(R p).x2=c∧(R p).x3=(D:Int)∧(R p).f=rsmp t (OF p) s D (unitN N D)):=by
    show (R p).x0=(CW:Int)∧(R p).x1=(CH:Int)∧(R p).x2=c∧(R p).x3=(D:Int)∧(R p).f=rsmp t (OF p) s D (unitN N D)
    rw[hRp]
    exact⟨rfl,rfl,rfl,rfl,rfl⟩
   have HRI:Hid (RowI WH (WH.alloc (.cells #[.int .i64 (CW:Int),.int .i64 (CH:Int),.int .i64 c,.int .i64 (D:Int),.slice none 0 0] 26)) (CW:Int) (CH:Int) c (D:Int) (rsmp t (OF p) s D (unitN N D)) 0):=rowI_start WH _ _ _ _ _
   have HOFP:=hid_of hof
   clear hRp hsq hof
   go_wp2_with fail
   go_region
   have HRI1:Hid (RowI WH ((WH.alloc (.cells #[.int .i64 (CW:Int),.int .i64 (CH:Int),.int .i64 c,.int .i64 (D:Int),.slice none 0 0] 26)).drew) (CW:Int) (CH:Int) c (D:Int) (rsmp t (OF p) s D (unitN N D)) 0):=HRI.out.called (Below.refl _ _).drew
   clear HRI l1 l2 l3 lb
   generalize (WH.alloc (.cells #[.int .i64 (CW:Int),.int .i64 (CH:Int),.int .i64 c,.int .i64 (D:Int),.slice none 0 0] 26)).drew=W6 at HRI1 ⊢
   obtain⟨v6,hb6,ho6,hB6⟩:=HRI1.out
   obtain⟨k0,k1,k2,k3,k4,lx⟩:=ras_five hb6
   clear hb6 ho6 hB6 k2 k3 k4
   go_wp2_with fail
   refine (hrb _).mono ?_
   rintro e w7 ⟨rfl,rfl⟩
   go_wp2_with fail
   refine (hzr _).mono ?_
   rintro e w8 ⟨rfl,hB8⟩
   have HRI8:=hid_of (HRI1.out.called hB8)
   clear hB8 HRI1 k0 k1 lx hrb hzr
   have HRW:Hid (∀ j,j < CH→(bts t (OF p+j * (rb s D+1))≤4→∀ V,Calls Tryd.prog 69 #[.int .i64 (bts t (OF p+j * (rb s D+1))),.string (t.extract (OF p+j * (rb s D+1)+1) (OF p+j * (rb s D+1)+1+rb s D)),.string (rabove t (OF p) (rb s D) (unitN N D) j),.int .i64 (unitN N D:Int)] V fun e w'=>e=.returned (.tuple #[.string (rrow t (OF p) (rb s D) (unitN N D) j),.bool true])∧Below V.heap.size V w')∧(¬ bts t (OF p+j * (rb s D+1))≤4→∀ V,Calls Tryd.prog 69 #[.int .i64 (bts t (OF p+j * (rb s D+1))),.string (t.extract (OF p+j * (rb s D+1)+1) (OF p+j * (rb s D+1)+1+rb s D)),.string (rabove t (OF p) (rb s D) (unitN N D) j),.int .i64 (unitN N D:Int)] V fun e w'=>e=.returned (.tuple #[.string ⟨#[]⟩,.bool false])∧Below V.heap.size V w')∧(rrow t (OF p) (rb s D) (unitN N D) j).size=rb s D∧OF p+j * (rb s D+1)+1+rb s D≤t.size):=fun j hj=>by
    have h1:(j+1) * (rb s D+1)≤CH * (rb s D+1):=Nat.mul_le_mul_right _ (by omega)
    have h1':=h1
    rw[Nat.add_mul,Nat.one_mul] at h1
    have hcut:=cut_size t (OF p+j * (rb s D+1)+1) (rb s D) (by omega)
    have hab:=rabove_size (t:=t) (a:=OF p) (b:=rb s D) (u:=unitN N D) (j:=j) (by omega)
    have hk:=bts_byte t (OF p+j * (rb s D+1))
    refine⟨fun h4 V=>?_,fun h4 V=>?_,rrow_size (by omega),by omega⟩
    ·have hr:FiltR (bts t (OF p+j * (rb s D+1))) (t.extract (OF p+j * (rb s D+1)+1) (OF p+j * (rb s D+1)+1+rb s D)) (rabove t (OF p) (rb s D) (unitN N D) j) (unitN N D:Int):=⟨⟨hk.1,h4⟩,⟨by omega,by omega⟩,by rw [hcut,hab],by rw [hcut]; omega⟩
     have q:=HUN.out (bts t (OF p+j * (rb s D+1))) (t.extract (OF p+j * (rb s D+1)+1) (OF p+j * (rb s D+1)+1+rb s D)) (rabove t (OF p) (rb s D) (unitN N D) j) V (by rw [hcut]; omega)
     rw[decide_eq_true hr] at q
     rw[rrow_form]
     unfold unfV at q
     rw[if_pos hr] at q
     exact q
    ·have hr:¬ FiltR (bts t (OF p+j * (rb s D+1))) (t.extract (OF p+j * (rb s D+1)+1) (OF p+j * (rb s D+1)+1+rb s D)) (rabove t (OF p) (rb s D) (unitN N D) j) (unitN N D:Int):=fun h=>h4 h.1.2
     have q:=HUN.out (bts t (OF p+j * (rb s D+1))) (t.extract (OF p+j * (rb s D+1)+1) (OF p+j * (rb s D+1)+1+rb s D)) (rabove t (OF p) (rb s D) (unitN N D) j) V (by rw [hcut]; omega)
     rw[decide_eq_false hr] at q
     unfold unfV at q
     rw[if_neg hr] at q
     exact q
   have HSM:Hid (∀ j i,i < s→rsmp t (OF p) s D (unitN N D) (j * s+i)=smp (rrow t (OF p) (rb s D) (unitN N D) j) D i):=fun j i hi=>rsmp_at t (OF p) s D (unitN N D) j hi
   have HAB:Hid (rabove t (OF p) (rb s D) (unitN N D) 0=zeroT (rb s D)∧∀ j,rabove t (OF p) (rb s D) (unitN N D) (j+1)=rrow t (OF p) (rb s D) (unitN N D) j):=⟨rfl,fun _=>rfl⟩
   have HRBD:Hid (rb s D=rb s D):=rfl
   generalize hF:rsmp t (OF p) s D (unitN N D)=F at *
   generalize hRw:rrow t (OF p) (rb s D) (unitN N D)=RW at *
   generalize hRa:rabove t (OF p) (rb s D) (unitN N D)=RAB at *
   have HUP2:Hid (∀ j,j < CH→∀ V,Calls Tryd.prog 71 #[.string (RW j),.int .i64 (s:Int),.int .i64 (D:Int)] V fun e w'=>∃ v,e=.returned (.tuple #[v,.bool true])∧NumRow w' V.heap.size v (smps (RW j) D s)∧Below V.heap.size V w'):=fun j hj V=>HUP.out (RW j) s V hbd3 (HRW.out j hj).2.2.1
   clear hF hRw hRa HRBD
   generalize rb s D=b at *
   generalize OF p=OP at *
   go_wp2_with fail
   go_loopg [17,21,22] (CH+1) (fun gk a ab i w'=>∃ j:Nat,j≤CH∧CH - j≤gk∧a=.int .i64 ((OP+j * (b+1):Nat):Int)∧ab=.string (RAB j)∧i=.int .i64 (j:Int)∧Hid (RowI WH w' (CW:Int) (CH:Int) c (D:Int) F (j * s))∧Hid (∀ i,i < j→bts t (OP+i * (b+1))≤4))
   case atStart=>exact⟨0,Nat.zero_le _,by omega,by simp,by rw [HAB.out.1],rfl,by simpa using HRI8,fun i hi=>absurd hi (Nat.not_lt_zero i)⟩
   case round=>
    clear HRI8
    obtain⟨j,hj,hgk2,rfl,rfl,rfl,hI,hk⟩:=hrel
    obtain⟨v,hbx,hov,hBw⟩:=hI.out
    obtain⟨k0,k1,k2,k3,k4,lx⟩:=ras_five hbx
    have kf:=unfrozen_of_block hbx
    have HBX:=hid_of hbx
    have HOV:=hid_of hov
    have HBW:=hid_of hBw
    have hvq:=own_block_le hov
    clear hbx hov hBw
    by_cases hlj:j < CH
    ·have dlj:decide ((j:Int) < (CH:Int))=true:=decide_eq_true (by omega)
     obtain⟨hr4,hrn,hrs,hrt⟩:=HRW.out j hlj
     have hup:=HUP2.out j hlj
     have hs1:=hps (by omega)
     obtain⟨AT,hAT⟩:∃ AT,AT=OP+j * (b+1):=⟨_,rfl⟩
     have HNX:Hid (OP+(j+1) * (b+1)=AT+1+b):=by
      show OP+(j+1) * (b+1)=AT+1+b
      rw[hAT,Nat.add_mul,Nat.one_mul]
      omega
     rw[← hAT] at hr4 hrn hrt ⊢
     have HAT:=hid_of hAT
     have hlt2:AT < t.size:=by omega
     have x0:(0:Int)≤(AT:Int):=by omega
     have x1:(AT:Int) < (t.size:Int):=by omega
     have HBY:Hid ((t[AT]'hlt2).toNat=byteAt t AT):=byteAt_get t AT hlt2
     obtain⟨X,hX⟩:∃ X:Int,X=((t[AT]'hlt2).toNat:Int):=⟨_,rfl⟩
     have hX0:0≤X∧X < 256:=by have:(t[AT]'hlt2).toNat < 256:=UInt8.toNat_lt _; omega
     have hXr:=hX.symm
     have hbX:bts t AT=X:=by
      unfold bts
      rw[← HBY.out,hX]
     rw[hbX] at hr4 hrn
     have HKX:Hid (∀ i,i < j+1→(X≤4→bts t (OP+i * (b+1))≤4)):=fun i hi h4=>by
      by_cases e:i=j
      ·rw[e,← HAT.out,hbX]
       exact h4
      ·exact hk.out i (by omega)
     have HKN:Hid (¬ X≤4→¬ KD):=fun h4 e=>h4 (by
      have:=HKP.out e j hlj
      rw[← HAT.out,hbX] at this
      exact this)
     have vs:IntKind.i64.wrap (s:Int)=(s:Int):=by rw [IntKind.wrap_i64]; omega
     have v4:IntKind.i64.wrap X=X:=by rw [IntKind.wrap_i64]; omega
     have v5:IntKind.i64.wrap ((AT:Int)+1)=(AT:Int)+1:=by rw [IntKind.wrap_i64]; omega
     have v6:IntKind.i64.wrap ((AT:Int)+1+(b:Int))=(AT:Int)+1+(b:Int):=by rw [IntKind.wrap_i64]; omega
     have z1:((AT:Int)+1).toNat=AT+1:=by omega
     have z2:((AT:Int)+1+(b:Int)).toNat=AT+1+b:=by omega
     have z3:(0:Int)≤(AT:Int)+1:=by omega
     have z4:(AT:Int)+1≤(AT:Int)+1+(b:Int):=by omega
     have z5:(AT:Int)+1+(b:Int)≤(t.size:Int):=by omega
     have z6:(0:Int)≤(AT:Int)+1+(b:Int):=by omega
     have z7:AT+1≤AT+1+b:=by omega
     have z8:AT+1+b≤t.size:=by omega
     clear hX hAT hbX
     generalize unitN N D=u at *
     by_cases hx4:X≤4
     ·have hunf:=hr4 hx4
      have HKY:Hid (∀ i,i < j+1→bts t (OP+i * (b+1))≤4):=fun i hi=>HKX.out i hi hx4
      clear hr4 hrn HKX HKN hx4
      go_wp2_with fail
      refine wp_region_held (S:=fun _=>True) (by kernel_rfl) ?_
      show wpAnyH _ _ _ _ _ _ _ _ wr.drew
      have HS6:True:=trivial
      refine wpAnyH_take (i:=0) (v:=.string t) rfl (by kernel_rfl) (by kernel_rfl) (by kernel_rfl) (fun _ _ _ h=>h) (Or.inl ⟨by rfl,?_⟩) HS6 ?_
      ·intro w' _
       go_simp
      simp only [Act.put,List.getElem_toArray,List.getElem_cons_zero,List.setIfInBounds_toArray,List.set_cons_zero,List.set_cons_succ]
      refine wpAnyH_take (i:=1) (v:=.int .i64 (AT:Int)) rfl (by kernel_rfl) (by kernel_rfl) (by kernel_rfl) (fun _ _ _ h=>h) (Or.inl ⟨by rfl,?_⟩) HS6 ?_
      ·intro w' _
       go_simp
      simp only [Act.put,List.getElem_toArray,List.getElem_cons_zero,List.getElem_cons_succ,List.setIfInBounds_toArray,List.set_cons_zero,List.set_cons_succ]
      refine wpAnyH_take (i:=2) (v:=.int .u8 X) rfl (by kernel_rfl) (by kernel_rfl) (by kernel_rfl) (fun _ _ _ h=>h) (Or.inl ⟨by rfl,?_⟩) HS6 ?_
      ·intro w' _
       go_simp
      simp only [Act.put,List.getElem_toArray,List.getElem_cons_zero,List.getElem_cons_succ,List.setIfInBounds_toArray,List.set_cons_zero,List.set_cons_succ]
      refine wpAnyH_take (i:=3) (v:=.int .i64 X) rfl (by kernel_rfl) (by kernel_rfl) (by kernel_rfl) (fun _ _ _ h=>h) (Or.inl ⟨by rfl,?_⟩) HS6 ?_
      ·intro w' _
       go_simp
      simp only [Act.put,List.getElem_toArray,List.getElem_cons_zero,List.getElem_cons_succ,List.setIfInBounds_toArray,List.set_cons_zero,List.set_cons_succ]
      refine wpAnyH_take (i:=4) (v:=.string t) rfl (by kernel_rfl) (by kernel_rfl) (by kernel_rfl) (fun _ _ _ h=>h) (Or.inl ⟨by rfl,?_⟩) HS6 ?_
      ·intro w' _
       go_simp
      simp only [Act.put,List.getElem_toArray,List.getElem_cons_zero,List.getElem_cons_succ,List.setIfInBounds_toArray,List.set_cons_zero,List.set_cons_succ]
      refine wpAnyH_take (i:=5) (v:=.int .i64 (AT:Int)) rfl (by kernel_rfl) (by kernel_rfl) (by kernel_rfl) (fun _ _ _ h=>h) (Or.inl ⟨by rfl,?_⟩) HS6 ?_
      ·intro w' _
       go_simp
      simp only [Act.put,List.getElem_toArray,List.getElem_cons_zero,List.getElem_cons_succ,List.setIfInBounds_toArray,List.set_cons_zero,List.set_cons_succ]
      refine wpAnyH_take (i:=6) (v:=.int .i64 ((AT:Int)+1)) rfl (by kernel_rfl) (by kernel_rfl) (by kernel_rfl) (fun _ _ _ h=>h) (Or.inl ⟨by rfl,?_⟩) HS6 ?_
      ·intro w' _
       go_simp
      simp only [Act.put,List.getElem_toArray,List.getElem_cons_zero,List.getElem_cons_succ,List.setIfInBounds_toArray,List.set_cons_zero,List.set_cons_succ]
      refine wpAnyH_take (i:=7) (v:=.int .i64 (AT:Int)) rfl (by kernel_rfl) (by kernel_rfl) (by kernel_rfl) (fun _ _ _ h=>h) (Or.inl ⟨by rfl,?_⟩) HS6 ?_
      ·intro w' _
       go_simp
      simp only [Act.put,List.getElem_toArray,List.getElem_cons_zero,List.getElem_cons_succ,List.setIfInBounds_toArray,List.set_cons_zero,List.set_cons_succ]
      refine wpAnyH_take (i:=8) (v:=.int .i64 ((AT:Int)+1)) rfl (by kernel_rfl) (by kernel_rfl) (by kernel_rfl) (fun _ _ _ h=>h) (Or.inl ⟨by rfl,?_⟩) HS6 ?_
      ·intro w' _
       go_simp
      simp only [Act.put,List.getElem_toArray,List.getElem_cons_zero,List.getElem_cons_succ,List.setIfInBounds_toArray,List.set_cons_zero,List.set_cons_succ]
      refine wpAnyH_take (i:=9) (v:=.int .i64 (b:Int)) rfl (by kernel_rfl) (by kernel_rfl) (by kernel_rfl) (fun _ _ _ h=>h) (Or.inl ⟨by rfl,?_⟩) HS6 ?_
      ·intro w' _
       go_simp
      simp only [Act.put,List.getElem_toArray,List.getElem_cons_zero,List.getElem_cons_succ,List.setIfInBounds_toArray,List.set_cons_zero,List.set_cons_succ]
      refine wpAnyH_take (i:=10) (v:=.int .i64 ((AT:Int)+1+(b:Int))) rfl (by kernel_rfl) (by kernel_rfl) (by kernel_rfl) (fun _ _ _ h=>h) (Or.inl ⟨by rfl,?_⟩) HS6 ?_
      ·intro w' _
       go_simp
      simp only [Act.put,List.getElem_toArray,List.getElem_cons_zero,List.getElem_cons_succ,List.setIfInBounds_toArray,List.set_cons_zero,List.set_cons_succ]
      refine wpAnyH_take (i:=11) (v:=.string (t.extract (AT+1) (AT+1+b))) rfl (by kernel_rfl) (by kernel_rfl) (by kernel_rfl) (fun _ _ _ h=>h) (Or.inl ⟨by rfl,?_⟩) HS6 ?_
      ·intro w' _
       go_simp
      simp only [Act.put,List.getElem_toArray,List.getElem_cons_zero,List.getElem_cons_succ,List.setIfInBounds_toArray,List.set_cons_zero,List.set_cons_succ]
      refine wpAnyH_take (i:=12) (v:=.string (RAB j)) rfl (by kernel_rfl) (by kernel_rfl) (by kernel_rfl) (fun _ _ _ h=>h) (Or.inl ⟨by rfl,?_⟩) HS6 ?_
      ·intro w' _
       go_simp
      simp only [Act.put,List.getElem_toArray,List.getElem_cons_zero,List.getElem_cons_succ,List.setIfInBounds_toArray,List.set_cons_zero,List.set_cons_succ]
      refine wpAnyH_take (i:=13) (v:=.int .i64 c) rfl (by kernel_rfl) (by kernel_rfl) (by kernel_rfl) (fun _ _ _ h=>h) (Or.inl ⟨by rfl,?_⟩) HS6 ?_
      ·intro w' _
       go_simp
      simp only [Act.put,List.getElem_toArray,List.getElem_cons_zero,List.getElem_cons_succ,List.setIfInBounds_toArray,List.set_cons_zero,List.set_cons_succ]
      refine wpAnyH_take (i:=14) (v:=.int .i64 (D:Int)) rfl (by kernel_rfl) (by kernel_rfl) (by kernel_rfl) (fun _ _ _ h=>h) (Or.inl ⟨by rfl,?_⟩) HS6 ?_
      ·intro w' _
       go_simp
      simp only [Act.put,List.getElem_toArray,List.getElem_cons_zero,List.getElem_cons_succ,List.setIfInBounds_toArray,List.set_cons_zero,List.set_cons_succ]
      refine wpAnyH_ready (rs:=[15]) (by kernel_rfl) (by simp) ?_
      refine AllReadyH.cons rfl (fun K hK=>?_) AllReadyH.nil
      refine if_wanted (wanted_none rfl) ?_
      simp only [List.getElem_toArray,List.getElem_cons_zero,List.getElem_cons_succ]
      go_simp
      refine (hun _).mono ?_
      rintro e w6 ⟨rfl,hw6⟩
      refine hK.out _ _ trivial (fun HS7=>?_)
      clear hK
      refine wpAnyH_ready (rs:=[16]) (by kernel_rfl) (by simp) ?_
      refine AllReadyH.cons rfl (fun K hK=>?_) AllReadyH.nil
      refine if_wanted (wanted_none rfl) ?_
      simp only [List.getElem_toArray,List.getElem_cons_zero,List.getElem_cons_succ]
      go_simp
      refine (hunf _).mono ?_
      rintro e w7 ⟨rfl,hB7⟩
      have HB67:Hid (Below wr.heap.size wr w7):=by subst hw6; exact⟨hB7.1,hB7.2,hB7.3,hB7.4,hB7.5⟩
      clear hB7 hw6
      refine hK.out _ _ trivial (fun HS8=>?_)
      clear hK
      refine wpAnyH_take (i:=17) (v:=.tuple #[.string (RW j),.bool true]) rfl (by kernel_rfl) (by kernel_rfl) (by kernel_rfl) (fun _ _ _ h=>h) (Or.inl ⟨by rfl,?_⟩) HS8 ?_
      ·intro w' _
       go_simp
      simp only [Act.put,List.getElem_toArray,List.getElem_cons_zero,List.getElem_cons_succ,List.setIfInBounds_toArray,List.set_cons_zero,List.set_cons_succ]
      refine wpAnyH_take (i:=18) (v:=.string (RW j)) rfl (by kernel_rfl) (by kernel_rfl) (by kernel_rfl) (fun _ _ _ h=>h) (Or.inl ⟨by rfl,?_⟩) HS8 ?_
      ·intro w' _
       go_simp
      simp only [Act.put,List.getElem_toArray,List.getElem_cons_zero,List.getElem_cons_succ,List.setIfInBounds_toArray,List.set_cons_zero,List.set_cons_succ]
      refine wpAnyH_take (i:=19) (v:=.bool true) rfl (by kernel_rfl) (by kernel_rfl) (by kernel_rfl) (fun _ _ _ h=>h) (Or.inl ⟨by rfl,?_⟩) HS8 ?_
      ·intro w' _
       go_simp
      simp only [Act.put,List.getElem_toArray,List.getElem_cons_zero,List.getElem_cons_succ,List.setIfInBounds_toArray,List.set_cons_zero,List.set_cons_succ]
      refine wpAnyH_take (i:=20) (v:=.string (RW j)) rfl (by kernel_rfl) (by kernel_rfl) (by kernel_rfl) (fun _ _ _ h=>h) (Or.inl ⟨by rfl,?_⟩) HS8 ?_
      ·intro w' _
       go_simp
      simp only [Act.put,List.getElem_toArray,List.getElem_cons_zero,List.getElem_cons_succ,List.setIfInBounds_toArray,List.set_cons_zero,List.set_cons_succ]
      refine wpAnyH_take (i:=21) (v:=.bool true) rfl (by kernel_rfl) (by kernel_rfl) (by kernel_rfl) (fun _ _ _ h=>h) (Or.inl ⟨by rfl,?_⟩) HS8 ?_
      ·intro w' _
       go_simp
      simp only [Act.put,List.getElem_toArray,List.getElem_cons_zero,List.getElem_cons_succ,List.setIfInBounds_toArray,List.set_cons_zero,List.set_cons_succ]
      refine wpAnyH_done (by kernel_rfl) ?_ _
      clear HS6 HS7 HS8
      go_wp2_with fail
      have c0:w7.cell? ⟨WH.heap.size,0,none⟩=some (.int .i64 (CW:Int)):=(HB67.out.cell (p:=⟨WH.heap.size,0,none⟩) lx).trans k0
      refine wp_region_held (S:=fun u=>u.cell? ⟨WH.heap.size,0,none⟩=some (.int .i64 (CW:Int))) (by kernel_rfl) ?_
      show wpAnyH _ _ _ _ _ _ _ _ w7.drew
      have HS6:w7.drew.cell? ⟨WH.heap.size,0,none⟩=some (.int .i64 (CW:Int)):=c0
      refine wpAnyH_take (i:=0) (v:=.string (RW j)) rfl (by kernel_rfl) (by kernel_rfl) (by kernel_rfl) (fun _ _ _ h=>h) (Or.inl ⟨by rfl,?_⟩) HS6 ?_
      ·intro w' hS
       go_simp
      simp only [Act.put,List.getElem_toArray,List.getElem_cons_zero,List.setIfInBounds_toArray,List.set_cons_zero,List.set_cons_succ]
      refine wpAnyH_take (i:=1) (v:=.pointer (some ⟨WH.heap.size,0,none⟩)) rfl (by kernel_rfl) (by kernel_rfl) (by kernel_rfl) (fun _ _ _ h=>h) (Or.inl ⟨by rfl,?_⟩) HS6 ?_
      ·intro w' hS
       go_simp
      simp only [Act.put,List.getElem_toArray,List.getElem_cons_zero,List.getElem_cons_succ,List.setIfInBounds_toArray,List.set_cons_zero,List.set_cons_succ]
      refine wpAnyH_take (i:=2) (v:=.int .i64 (CW:Int)) rfl (by kernel_rfl) (by kernel_rfl) (by kernel_rfl) (fun _ _ _ h=>h) (Or.inl ⟨by rfl,?_⟩) HS6 ?_
      ·intro w' hS
       go_simp
      simp only [Act.put,List.getElem_toArray,List.getElem_cons_zero,List.getElem_cons_succ,List.setIfInBounds_toArray,List.set_cons_zero,List.set_cons_succ]
      refine wpAnyH_take (i:=3) (v:=.int .i64 c) rfl (by kernel_rfl) (by kernel_rfl) (by kernel_rfl) (fun _ _ _ h=>h) (Or.inl ⟨by rfl,?_⟩) HS6 ?_
      ·intro w' hS
       go_simp
      simp only [Act.put,List.getElem_toArray,List.getElem_cons_zero,List.getElem_cons_succ,List.setIfInBounds_toArray,List.set_cons_zero,List.set_cons_succ]
      refine wpAnyH_take (i:=6) (v:=.int .i64 (D:Int)) rfl (by kernel_rfl) (by kernel_rfl) (by kernel_rfl) (fun _ _ _ h=>h) (Or.inl ⟨by rfl,?_⟩) HS6 ?_
      ·intro w' hS
       go_simp
      simp only [Act.put,List.getElem_toArray,List.getElem_cons_zero,List.getElem_cons_succ,List.setIfInBounds_toArray,List.set_cons_zero,List.set_cons_succ]
      refine wpAnyH_ready (rs:=[4]) (by kernel_rfl) (by simp) ?_
      refine AllReadyH.cons rfl (fun K hK=>?_) AllReadyH.nil
      refine if_wanted (wanted_none rfl) ?_
      simp only [List.getElem_toArray,List.getElem_cons_zero,List.getElem_cons_succ]
      go_simp
      refine (hch _).mono ?_
      rintro e w6 ⟨rfl,hw6⟩
      refine hK.out _ _ (by rw [hw6]; exact HS6) (fun HS7=>?_)
      clear hK
      refine wpAnyH_take (i:=5) (v:=.int .i64 (s:Int)) rfl (by kernel_rfl) (by kernel_rfl) (by kernel_rfl) (fun _ _ _ h=>h) (Or.inl ⟨by rfl,?_⟩) HS7 ?_
      ·intro w' hS
       go_simp
      simp only [Act.put,List.getElem_toArray,List.getElem_cons_zero,List.getElem_cons_succ,List.setIfInBounds_toArray,List.set_cons_zero,List.set_cons_succ]
      refine wpAnyH_ready (rs:=[7]) (by kernel_rfl) (by simp) ?_
      refine AllReadyH.cons rfl (fun K hK=>?_) AllReadyH.nil
      refine if_wanted (wanted_none rfl) ?_
      simp only [List.getElem_toArray,List.getElem_cons_zero,List.getElem_cons_succ]
      go_simp
      refine (hup _).mono ?_
      rintro e w8 ⟨vl,rfl,hNv,hB8⟩
      have HB68:Hid (Below wr.heap.size wr w8):=by subst hw6; exact bnext HB67.out ⟨hB8.1,hB8.2,hB8.3,hB8.4,hB8.5⟩
      have c8:w8.cell? ⟨WH.heap.size,0,none⟩=some (.int .i64 (CW:Int)):=by subst hw6; exact (hB8.cell (p:=⟨WH.heap.size,0,none⟩) (by exact World.block_lt_of_cell? w7 _ c0)).trans c0
      clear hB8 hw6
      refine hK.out _ _ c8 (fun HS8=>?_)
      clear hK
      refine wpAnyH_take (i:=8) (v:=.tuple #[vl,.bool true]) rfl (by kernel_rfl) (by kernel_rfl) (by kernel_rfl) (fun _ _ _ h=>h) (Or.inl ⟨by rfl,?_⟩) HS8 ?_
      ·intro w' hS
       go_simp
      simp only [Act.put,List.getElem_toArray,List.getElem_cons_zero,List.getElem_cons_succ,List.setIfInBounds_toArray,List.set_cons_zero,List.set_cons_succ]
      refine wpAnyH_take (i:=9) (v:=vl) rfl (by kernel_rfl) (by kernel_rfl) (by kernel_rfl) (fun _ _ _ h=>h) (Or.inl ⟨by rfl,?_⟩) HS8 ?_
      ·intro w' hS
       go_simp
      simp only [Act.put,List.getElem_toArray,List.getElem_cons_zero,List.getElem_cons_succ,List.setIfInBounds_toArray,List.set_cons_zero,List.set_cons_succ]
      refine wpAnyH_take (i:=10) (v:=.bool true) rfl (by kernel_rfl) (by kernel_rfl) (by kernel_rfl) (fun _ _ _ h=>h) (Or.inl ⟨by rfl,?_⟩) HS8 ?_
      ·intro w' hS
       go_simp
      simp only [Act.put,List.getElem_toArray,List.getElem_cons_zero,List.getElem_cons_succ,List.setIfInBounds_toArray,List.set_cons_zero,List.set_cons_succ]
      refine wpAnyH_take (i:=11) (v:=vl) rfl (by kernel_rfl) (by kernel_rfl) (by kernel_rfl) (fun _ _ _ h=>h) (Or.inl ⟨by rfl,?_⟩) HS8 ?_
      ·intro w' hS
       go_simp
      simp only [Act.put,List.getElem_toArray,List.getElem_cons_zero,List.getElem_cons_succ,List.setIfInBounds_toArray,List.set_cons_zero,List.set_cons_succ]
      refine wpAnyH_take (i:=12) (v:=.bool true) rfl (by kernel_rfl) (by kernel_rfl) (by kernel_rfl) (fun _ _ _ h=>h) (Or.inl ⟨by rfl,?_⟩) HS8 ?_
      ·intro w' hS
       go_simp
      simp only [Act.put,List.getElem_toArray,List.getElem_cons_zero,List.getElem_cons_succ,List.setIfInBounds_toArray,List.set_cons_zero,List.set_cons_succ]
      refine wpAnyH_done (by kernel_rfl) ?_ _
      clear c0 c8 HS6 HS7 HS8
      obtain⟨av,cv,rfl,_,_,hCv,_⟩:=NumRow.form hNv
      obtain⟨gv,ov,hav,hgv,hcv⟩:∃ gv ov,av=some ⟨gv,ov,none⟩∧gv < w8.heap.size∧∀ i,i < s→w8.cell? ⟨gv,ov+i,none⟩=some (.int .i64 (F (j * s+i))):=by
       rcases hCv with q | ⟨gv,ov,q1,q2,q3⟩
       ·rw[smps_length] at q; omega
       ·refine⟨gv,ov,q1,q2,fun i hi=>?_⟩
        rw[q3 i (by rw [smps_length]; exact hi),HSM.out j i hi]
        simp[smps,hi]
      subst hav
      have hjs:j * s≤24 * 96:=Nat.mul_le_mul (by omega) hbd3
      have HJS:Hid ((j+1) * s=j * s+s):=by rw [Nat.add_mul,Nat.one_mul]; rfl
      have HBX8:Hid (w8.heap[WH.heap.size]?=some (.cells #[.int .i64 (CW:Int),.int .i64 (CH:Int),.int .i64 c,.int .i64 (D:Int),v] 26 (0,0))):=(HB68.out.block _ (block_lt HBX.out)).trans HBX.out
      have HOV8:Hid (w8.ownsRow (WH.heap.size+1) 3 1 v (j * s) (fints F (j * s))):=by
       refine⟨HOV.out.1,?_⟩
       rcases HOV.out.2 with q | ⟨g,cc,cur,e,q1,q2,q3⟩
       ·exact .inl q
       ·exact .inr ⟨g,cc,cur,e,q1,(HB68.out.block _ (block_lt q2)).trans q2,q3⟩
      have HBW8:Hid (Below WH.heap.size WH w8):=bnext HBW.out HB68.out
      obtain⟨m0,m1',m2,m3,m4,mx⟩:=ras_five HBX8.out
      have hsz8:WH.heap.size+1≤w8.heap.size:=mx
      have HNW:Hid (∀ (i:Nat) (y:Value),((List.range s).map fun i=>Value.int .i64 (F (j * s+i)))[i]?=some y→w8.cell? ((⟨gv,ov,none⟩:Addr).add i)=some y):=fun i y hy=>by
       have hi:i < s:=by
        rcases Nat.lt_or_ge i s with h | h
        ·exact h
        ·rw[List.getElem?_eq_none (by simpa using h)] at hy; cases hy
       rw[List.getElem?_map,List.getElem?_range hi] at hy
       have hy2:some (Value.int .i64 (F (j * s+i)))=some y:=hy
       rw[← hy2,Addr.add_lit]
       exact hcv i hi
      obtain⟨i1,hi1,hy1,hy2,hy3⟩:=info_parts info_num15
      have HI1:=hid_of (And.intro hi1 (And.intro hy1 (And.intro hy2 hy3)))
      clear hi1 hy1 hy2 hy3 hcv hCv hNv
      rw[smps_length]
      generalize hJ:j * s=JS at *
      clear hJ
      go_wp2_with (at_builtin; refine wpList_append_lies _ rfl _ _ 24 rfl (WH.heap.size+1) 3 i1 _ 1 8 Tryd.underlying24 HI1.out.1 HI1.out.2.1 HI1.out.2.2.1 HI1.out.2.2.2 rfl (by omega) v JS (fints F JS) rfl HOV8.out ⟨gv,ov,none⟩ s cv ((List.range s).map fun i=>Value.int .i64 (F (JS+i))) rfl (by simp) HNW.out (fun y hy=>by obtain⟨_,_,rfl⟩:=List.mem_map.1 hy; rfl) hs1 (by unfold maxLen; omega) (by omega) hsz8 _ rfl ?_)
      intro g9 cap9 w9 ho9 hg9 _ _
      have HR9:=hid_of (rowI_next HBX8.out HBW8.out hvq ho9 hg9)
      have HX9:Hid (w9.heap[WH.heap.size]?=some (.cells #[.int .i64 (CW:Int),.int .i64 (CH:Int),.int .i64 c,.int .i64 (D:Int),v] 26 (0,0))):=(hg9.block _ mx (fun e=>by have:=hvq _ e.symm; omega)).trans HBX8.out
      obtain⟨n0,n1,n2,n3,n4,nx⟩:=ras_five HX9.out
      have nf:=unfrozen_of_block HX9.out
      clear ho9 hg9 m0 m1' m2 m3 m4 mx HNW
      go_wp2_with fail
      go_roundg (CH - (j+1))
      case measure=>omega
      case rel=>
       refine⟨j+1,by omega,Nat.le_refl _,by rw [HNX.out]; go_num,by rw [HAB.out.2 j],by go_num,?_,HKY⟩
       rw[HJS.out]
       exact HR9
     ·have hunf:=hrn (by omega)
      have HKY:=hid_of (HKN.out hx4)
      clear hr4 hrn HKX HKN hx4
      go_wp2_with fail
      refine wp_region_held (S:=fun _=>True) (by kernel_rfl) ?_
      show wpAnyH _ _ _ _ _ _ _ _ wr.drew
      have HS6:True:=trivial
      refine wpAnyH_take (i:=0) (v:=.string t) rfl (by kernel_rfl) (by kernel_rfl) (by kernel_rfl) (fun _ _ _ h=>h) (Or.inl ⟨by rfl,?_⟩) HS6 ?_
      ·intro w' _
       go_simp
      simp only [Act.put,List.getElem_toArray,List.getElem_cons_zero,List.setIfInBounds_toArray,List.set_cons_zero,List.set_cons_succ]
      refine wpAnyH_take (i:=1) (v:=.int .i64 (AT:Int)) rfl (by kernel_rfl) (by kernel_rfl) (by kernel_rfl) (fun _ _ _ h=>h) (Or.inl ⟨by rfl,?_⟩) HS6 ?_
      ·intro w' _
       go_simp
      simp only [Act.put,List.getElem_toArray,List.getElem_cons_zero,List.getElem_cons_succ,List.setIfInBounds_toArray,List.set_cons_zero,List.set_cons_succ]
      refine wpAnyH_take (i:=2) (v:=.int .u8 X) rfl (by kernel_rfl) (by kernel_rfl) (by kernel_rfl) (fun _ _ _ h=>h) (Or.inl ⟨by rfl,?_⟩) HS6 ?_
      ·intro w' _
       go_simp
      simp only [Act.put,List.getElem_toArray,List.getElem_cons_zero,List.getElem_cons_succ,List.setIfInBounds_toArray,List.set_cons_zero,List.set_cons_succ]
      refine wpAnyH_take (i:=3) (v:=.int .i64 X) rfl (by kernel_rfl) (by kernel_rfl) (by kernel_rfl) (fun _ _ _ h=>h) (Or.inl ⟨by rfl,?_⟩) HS6 ?_
      ·intro w' _
       go_simp
      simp only [Act.put,List.getElem_toArray,List.getElem_cons_zero,List.getElem_cons_succ,List.setIfInBounds_toArray,List.set_cons_zero,List.set_cons_succ]
      refine wpAnyH_take (i:=4) (v:=.string t) rfl (by kernel_rfl) (by kernel_rfl) (by kernel_rfl) (fun _ _ _ h=>h) (Or.inl ⟨by rfl,?_⟩) HS6 ?_
      ·intro w' _
       go_simp
      simp only [Act.put,List.getElem_toArray,List.getElem_cons_zero,List.getElem_cons_succ,List.setIfInBounds_toArray,List.set_cons_zero,List.set_cons_succ]
      refine wpAnyH_take (i:=5) (v:=.int .i64 (AT:Int)) rfl (by kernel_rfl) (by kernel_rfl) (by kernel_rfl) (fun _ _ _ h=>h) (Or.inl ⟨by rfl,?_⟩) HS6 ?_
      ·intro w' _
       go_simp
      simp only [Act.put,List.getElem_toArray,List.getElem_cons_zero,List.getElem_cons_succ,List.setIfInBounds_toArray,List.set_cons_zero,List.set_cons_succ]
      refine wpAnyH_take (i:=6) (v:=.int .i64 ((AT:Int)+1)) rfl (by kernel_rfl) (by kernel_rfl) (by kernel_rfl) (fun _ _ _ h=>h) (Or.inl ⟨by rfl,?_⟩) HS6 ?_
      ·intro w' _
       go_simp
      simp only [Act.put,List.getElem_toArray,List.getElem_cons_zero,List.getElem_cons_succ,List.setIfInBounds_toArray,List.set_cons_zero,List.set_cons_succ]
      refine wpAnyH_take (i:=7) (v:=.int .i64 (AT:Int)) rfl (by kernel_rfl) (by kernel_rfl) (by kernel_rfl) (fun _ _ _ h=>h) (Or.inl ⟨by rfl,?_⟩) HS6 ?_
      ·intro w' _
       go_simp
      simp only [Act.put,List.getElem_toArray,List.getElem_cons_zero,List.getElem_cons_succ,List.setIfInBounds_toArray,List.set_cons_zero,List.set_cons_succ]
      refine wpAnyH_take (i:=8) (v:=.int .i64 ((AT:Int)+1)) rfl (by kernel_rfl) (by kernel_rfl) (by kernel_rfl) (fun _ _ _ h=>h) (Or.inl ⟨by rfl,?_⟩) HS6 ?_
      ·intro w' _
       go_simp
      simp only [Act.put,List.getElem_toArray,List.getElem_cons_zero,List.getElem_cons_succ,List.setIfInBounds_toArray,List.set_cons_zero,List.set_cons_succ]
      refine wpAnyH_take (i:=9) (v:=.int .i64 (b:Int)) rfl (by kernel_rfl) (by kernel_rfl) (by kernel_rfl) (fun _ _ _ h=>h) (Or.inl ⟨by rfl,?_⟩) HS6 ?_
      ·intro w' _
       go_simp
      simp only [Act.put,List.getElem_toArray,List.getElem_cons_zero,List.getElem_cons_succ,List.setIfInBounds_toArray,List.set_cons_zero,List.set_cons_succ]
      refine wpAnyH_take (i:=10) (v:=.int .i64 ((AT:Int)+1+(b:Int))) rfl (by kernel_rfl) (by kernel_rfl) (by kernel_rfl) (fun _ _ _ h=>h) (Or.inl ⟨by rfl,?_⟩) HS6 ?_
      ·intro w' _
       go_simp
      simp only [Act.put,List.getElem_toArray,List.getElem_cons_zero,List.getElem_cons_succ,List.setIfInBounds_toArray,List.set_cons_zero,List.set_cons_succ]
      refine wpAnyH_take (i:=11) (v:=.string (t.extract (AT+1) (AT+1+b))) rfl (by kernel_rfl) (by kernel_rfl) (by kernel_rfl) (fun _ _ _ h=>h) (Or.inl ⟨by rfl,?_⟩) HS6 ?_
      ·intro w' _
       go_simp
      simp only [Act.put,List.getElem_toArray,List.getElem_cons_zero,List.getElem_cons_succ,List.setIfInBounds_toArray,List.set_cons_zero,List.set_cons_succ]
      refine wpAnyH_take (i:=12) (v:=.string (RAB j)) rfl (by kernel_rfl) (by kernel_rfl) (by kernel_rfl) (fun _ _ _ h=>h) (Or.inl ⟨by rfl,?_⟩) HS6 ?_
      ·intro w' _
       go_simp
      simp only [Act.put,List.getElem_toArray,List.getElem_cons_zero,List.getElem_cons_succ,List.setIfInBounds_toArray,List.set_cons_zero,List.set_cons_succ]
      refine wpAnyH_take (i:=13) (v:=.int .i64 c) rfl (by kernel_rfl) (by kernel_rfl) (by kernel_rfl) (fun _ _ _ h=>h) (Or.inl ⟨by rfl,?_⟩) HS6 ?_
      ·intro w' _
       go_simp
      simp only [Act.put,List.getElem_toArray,List.getElem_cons_zero,List.getElem_cons_succ,List.setIfInBounds_toArray,List.set_cons_zero,List.set_cons_succ]
      refine wpAnyH_take (i:=14) (v:=.int .i64 (D:Int)) rfl (by kernel_rfl) (by kernel_rfl) (by kernel_rfl) (fun _ _ _ h=>h) (Or.inl ⟨by rfl,?_⟩) HS6 ?_
      ·intro w' _
       go_simp
      simp only [Act.put,List.getElem_toArray,List.getElem_cons_zero,List.getElem_cons_succ,List.setIfInBounds_toArray,List.set_cons_zero,List.set_cons_succ]
      refine wpAnyH_ready (rs:=[15]) (by kernel_rfl) (by simp) ?_
      refine AllReadyH.cons rfl (fun K hK=>?_) AllReadyH.nil
      refine if_wanted (wanted_none rfl) ?_
      simp only [List.getElem_toArray,List.getElem_cons_zero,List.getElem_cons_succ]
      go_simp
      refine (hun _).mono ?_
      rintro e w6 ⟨rfl,hw6⟩
      refine hK.out _ _ trivial (fun HS7=>?_)
      clear hK
      refine wpAnyH_ready (rs:=[16]) (by kernel_rfl) (by simp) ?_
      refine AllReadyH.cons rfl (fun K hK=>?_) AllReadyH.nil
      refine if_wanted (wanted_none rfl) ?_
      simp only [List.getElem_toArray,List.getElem_cons_zero,List.getElem_cons_succ]
      go_simp
      refine (hunf _).mono ?_
      rintro e w7 ⟨rfl,hB7⟩
      have HB67:Hid (Below wr.heap.size wr w7):=by subst hw6; exact⟨hB7.1,hB7.2,hB7.3,hB7.4,hB7.5⟩
      clear hB7 hw6
      refine hK.out _ _ trivial (fun HS8=>?_)
      clear hK
      refine wpAnyH_take (i:=17) (v:=.tuple #[.string ⟨#[]⟩,.bool false]) rfl (by kernel_rfl) (by kernel_rfl) (by kernel_rfl) (fun _ _ _ h=>h) (Or.inl ⟨by rfl,?_⟩) HS8 ?_
      ·intro w' _
       go_simp
      simp only [Act.put,List.getElem_toArray,List.getElem_cons_zero,List.getElem_cons_succ,List.setIfInBounds_toArray,List.set_cons_zero,List.set_cons_succ]
      refine wpAnyH_take (i:=18) (v:=.string ⟨#[]⟩) rfl (by kernel_rfl) (by kernel_rfl) (by kernel_rfl) (fun _ _ _ h=>h) (Or.inl ⟨by rfl,?_⟩) HS8 ?_
      ·intro w' _
       go_simp
      simp only [Act.put,List.getElem_toArray,List.getElem_cons_zero,List.getElem_cons_succ,List.setIfInBounds_toArray,List.set_cons_zero,List.set_cons_succ]
      refine wpAnyH_take (i:=19) (v:=.bool false) rfl (by kernel_rfl) (by kernel_rfl) (by kernel_rfl) (fun _ _ _ h=>h) (Or.inl ⟨by rfl,?_⟩) HS8 ?_
      ·intro w' _
       go_simp
      simp only [Act.put,List.getElem_toArray,List.getElem_cons_zero,List.getElem_cons_succ,List.setIfInBounds_toArray,List.set_cons_zero,List.set_cons_succ]
      refine wpAnyH_take (i:=20) (v:=.string ⟨#[]⟩) rfl (by kernel_rfl) (by kernel_rfl) (by kernel_rfl) (fun _ _ _ h=>h) (Or.inl ⟨by rfl,?_⟩) HS8 ?_
      ·intro w' _
       go_simp
      simp only [Act.put,List.getElem_toArray,List.getElem_cons_zero,List.getElem_cons_succ,List.setIfInBounds_toArray,List.set_cons_zero,List.set_cons_succ]
      refine wpAnyH_take (i:=21) (v:=.bool false) rfl (by kernel_rfl) (by kernel_rfl) (by kernel_rfl) (fun _ _ _ h=>h) (Or.inl ⟨by rfl,?_⟩) HS8 ?_
      ·intro w' _
       go_simp
      simp only [Act.put,List.getElem_toArray,List.getElem_cons_zero,List.getElem_cons_succ,List.setIfInBounds_toArray,List.set_cons_zero,List.set_cons_succ]
      refine wpAnyH_done (by kernel_rfl) ?_ _
      clear HS6 HS7 HS8
      have HZ:Hid (w7.heap[w.heap.size]?=some (.cells #[.int .i64 0,.int .i64 0,.int .i64 0,.int .i64 0,.slice none 0 0] 26 (0,0))):=(HB67.out.block _ (Nat.lt_of_lt_of_le (block_lt hP.out.1) HBW.out.size)).trans ((HBW.out.block _ (block_lt hP.out.1)).trans hP.out.1)
      obtain⟨y0,y1,y2,y3,y4,yl⟩:=ras_five HZ.out
      have yf:=unfrozen_of_block HZ.out
      have HBE:Hid (Below w.heap.size w w7):=bnext (bnext hP.out.2.2 HBW.out) HB67.out
      clear k0 k1 k2 k3 k4 lx kf
      go_wp2_with fail
      refine bodyPost_ret (v:=.tuple #[ras0,.int .i64 2]) ?_ rfl ⟨?_,.inr ⟨HKY.out,rfl⟩⟩
      ·simp[results,Tryd.results31,go_sem, *]
      ·iterate 5 refine Below.setCell ?_ (by exact Nat.le_refl _) _
       exact HBE.out
    ·obtain rfl:j=CH:=by omega
     have hone:v.oneCell'=true:=by rcases HOV.out.2 with ⟨rfl,_⟩ | ⟨_,_,_,rfl,_⟩ <;> rfl
     obtain⟨hbx0,⟨A,G,C,hLL,hRL,hne⟩,hB0⟩:=hP.out
     have hglt:gl < WH.heap.size:=by
      rcases hLL.2 with ⟨e,_⟩ | ⟨g,c',cur,e,_,q,_⟩
      ·cases e
      ·cases e
       exact block_lt q
     obtain⟨rx0,rx1,rx2,rx3,rxf⟩:=HRX.out
     have hO5:wr.ownsRow (WH.heap.size+1) 3 1 v (R p).n (fints (R p).f (R p).n):=by
      rw[HRN.out,rxf]
      exact HOV.out
     have HY:Hid (∀ w6 g' cap',w6.ownsRow (w.heap.size+1) 26 5 (.slice (some ⟨g',0,none⟩) (p+1) cap') (p+1) (rcells R A C p ++ [.int .i64 (CW:Int),.int .i64 (j:Int),.int .i64 c,.int .i64 (D:Int),v])→(wr.alloc (.cells #[.int .i64 (CW:Int),.int .i64 (j:Int),.int .i64 c,.int .i64 (D:Int),v] 26)).grownBy w6 (some gl)→(some gl=some g'∨g'=(wr.alloc (.cells #[.int .i64 (CW:Int),.int .i64 (j:Int),.int .i64 c,.int .i64 (D:Int),v] 26)).heap.size)→PtI w w6 #[.int .i64 0,.int .i64 0,.int .i64 0,.int .i64 0,.slice none 0 0] R g' cap' (p+1)∧Below w4.heap.size w4 w6∧w4.heap.size≤g'):=fun w6 g' cap' h1 h2 h3=>
      ⟨ptI_next hbx0 hLL hRL hne hB0 hO5 HBW.out (by rw [rx0,rx1,rx2,rx3]; exact h1) h2 h3,below_app hL.out HBW.out h2 hgl,by
       rcases h3 with e | e
       ·rw[← Option.some.inj e]
        exact hgl
       ·have h4:=hL.out.size
        have h5:=HBW.out.size
        rw[e]
        simp
        omega⟩
     have HLW:Hid ((wr.alloc (.cells #[.int .i64 (CW:Int),.int .i64 (j:Int),.int .i64 c,.int .i64 (D:Int),v] 26)).ownsRow (w.heap.size+1) 26 5 (.slice (some ⟨gl,0,none⟩) p cl) p (rcells R A C p)):=by
      obtain⟨r1,r2⟩:=hLL
      refine⟨r1,?_⟩
      rcases r2 with ⟨e,_⟩ | ⟨g9,c9,cur,e,s1,s2,s3⟩
      ·cases e
      ·cases e
       refine .inr ⟨_,_,cur,rfl,s1,?_,s3⟩
       rw[Below.heap_alloc wr _ _ (Nat.lt_of_lt_of_le hglt HBW.out.size)]
       exact (HBW.out.block _ hglt).trans s2
     have hsw:w.heap.size+1≤wr.heap.size:=Nat.le_trans (block_lt hbx0) HBW.out.size
     clear hbx0 hLL hRL hne hB0 hO5 rx0 rx1 rx2 rx3 rxf
     go_wp2_with (at_builtin; refine wpList_append_lies _ rfl _ _ 28 rfl (w.heap.size+1) 26 i0 _ 5 56 Tryd.underlying28 HIN.out.1 HIN.out.2.1 HIN.out.2.2.1 HIN.out.2.2.2 rfl (by omega) (.slice (some ⟨gl,0,none⟩) p cl) p (rcells R A C p) (by rfl) (by exact HLW.out) ⟨wr.heap.size,0,none⟩ 1 1 [.int .i64 (CW:Int),.int .i64 (j:Int),.int .i64 c,.int .i64 (D:Int),v] (by rfl) rfl (by exact World.news_of_block (heap_alloc_new wr _)) (by intro u hu; simp only [List.mem_cons,List.not_mem_nil,or_false] at hu; rcases hu with rfl | rfl | rfl | rfl | rfl <;> first | rfl | exact hone) (by omega) (by unfold maxLen; omega) (by omega) (by simp; omega) _ rfl ?_)
     intro g' cap' w6 y1 y2 y3 y4
     obtain⟨hp6,hl6,hg6⟩:=HY.out w6 g' cap' y1 y2 (by rcases y3 with e | e; exact .inl e; exact .inr (by simpa using e))
     have HP6:=hid_of hp6
     have HL6:=hid_of hl6
     clear y1 y2 y3 y4 HY HLW hp6 hl6
     go_wp2_with fail
     go_roundg (K - (p+1))
     case measure=>omega
     case rel=>exact⟨p+1,g',cap',by omega,Nat.le_refl _,rfl,by rw [HOFP.out]; simp,by go_num,hg6,HP6,HL6,HKC.out hk.out⟩
  ·obtain rfl:p=K:=by omega
   have HYES:Hid KD:=HKD.out.mpr (fun q hq j hj=>hkd.out q hq j hj)
   obtain⟨hbx0,⟨A,G,C,hLL,hRL,hne⟩,hB0⟩:=hP.out
   have HBX0:=hid_of hbx0
   have HB0:=hid_of hB0
   obtain⟨z0,z1,z2,z3,z4,zl⟩:=ras_five hbx0
   have zf:=unfrozen_of_block hbx0
   have HRC:=hid_of hP.out.out
   rcases HKK.out with ⟨hla,hK7⟩ | ⟨hla,hK1⟩
   ·have hRA:=HRA.out.1 hla
    have hfr:=HFR.out hla
    have hfp:Calls Tryd.prog 27 #[.int .i64 (W:Int),.int .i64 (H:Int),.slice (some ⟨gl,0,none⟩) 7 cl] WH fun e w'=>∃ S,e=.returned (.tuple #[rasA RA (some ⟨S,0,none⟩) RA.n,.bool true])∧Came w' (some ⟨S,0,none⟩) RA.n RA.f∧WH.heap.size≤S∧Below WH.heap.size WH w':=by
     rw[hRA]
     have hC:=HRC.out
     rw[hK7] at hC
     refine (specFrom_any (W:Int) (H:Int) (some ⟨gl,0,none⟩) 7 cl R WH hC (fun j _=>HRS.out j)).mono ?_
     rintro e w' ⟨⟨_,S,q1,q2,q4⟩ | ⟨q,_⟩,q3⟩
     ·exact⟨S,q1,q2,q4,q3⟩
     ·exact absurd hfr q
    clear hbx0 hLL hRL hne hB0 hRA hfr z0 z1 z2 z3 z4 zl zf
    subst hla hK7
    obtain⟨r0,r1,r2,r3,rn,rf⟩:=RA
    have hfq:Calls Tryd.prog 27 #[.int .i64 (W:Int),.int .i64 (H:Int),.slice (some ⟨gl,0,none⟩) 7 cl] WH fun e w'=>∃ S,e=.returned (.tuple #[.agg #[.int .i64 r0,.int .i64 r1,.int .i64 r2,.int .i64 r3,.slice (some ⟨S,0,none⟩) rn rn],.bool true])∧Came w' (some ⟨S,0,none⟩) rn rf∧WH.heap.size≤S∧Below WH.heap.size WH w':=hfp
    clear hfp
    go_wp2_with fail
    refine hfq.mono ?_
    rintro e w5 ⟨S,rfl,hC5,hS5,hB5⟩
    have HX5:=hid_of ((hB5.block _ (block_lt HBX0.out)).trans HBX0.out)
    have hSl:w.heap.size < S:=Nat.lt_of_lt_of_le (block_lt HBX0.out) hS5
    have HC5:=hid_of hC5
    have HB5:=hid_of (bnext HB0.out hB5)
    clear hC5 hB5 hfq
    obtain⟨z0,z1,z2,z3,z4,zl⟩:=ras_five HX5.out
    have zf:=unfrozen_of_block HX5.out
    have zne:¬ w.heap.size=w5.heap.size:=by omega
    have zne2:¬ w5.heap.size=w.heap.size:=by omega
    go_wp2_with fail
    refine bodyPost_ret (v:=.tuple #[.agg #[.int .i64 r0,.int .i64 r1,.int .i64 r2,.int .i64 r3,.slice (some ⟨S,0,none⟩) rn rn],.int .i64 0]) ?_ rfl ⟨?_,.inl ⟨HYES.out,_,⟨_,rfl⟩,?_⟩⟩
    ·simp[results,Tryd.results31,go_sem, *]
    ·refine bal ?_ _
     iterate 5 refine Below.setCell ?_ (by exact Nat.le_refl _) _
     exact HB5.out
    ·show Came _ (some ⟨S,0,none⟩) rn rf
     rcases HC5.out with q | ⟨g5,o5,q1,q2,q3⟩
     ·exact .inl q
     ·cases q1
      refine .inr ⟨S,0,rfl,by simp; omega,fun i hi=>?_⟩
      rw[← q3 i hi]
      refine World.cell?_of_block (a:=⟨S,0+i,none⟩) ?_
      rw[Below.heap_alloc _ _ _ (by simp; exact q2)]
      iterate 5 rw [heap_setCell_other _ _ _ _ (by show ¬ S=w.heap.size; omega)]
   ·have hRA:=HRA.out.2 hla
    have HRO:=hid_of (hRL 0 (by omega))
    have hat:RasAt WH gl (0 * 5) (R 0) (A 0) (C 0):=by
     rcases hLL.2 with ⟨e,_⟩ | ⟨g,c',cur,e,h1,h2,h3,h4,h5,h6⟩
     ·cases e
     ·cases e
      have hcc:∀ k,k < p * 5→WH.cell? ⟨gl,k,none⟩=(rcells R A C p)[k]?:=fun k hk=>by
       rw[cell_of_block h2 k,← h6,List.getElem?_take,if_pos hk]
       simp
      have q:=rcells_get R A C p 0 (by omega)
      unfold RasAt
      rw[hcc _ (by omega),hcc _ (by omega),hcc _ (by omega),hcc _ (by omega),hcc _ (by omega)]
      exact q
    have hglw:w.heap.size+1≤gl:=own_block_le hLL gl rfl
    have hgll:gl < WH.heap.size:=by
     rcases hLL.2 with ⟨e,_⟩ | ⟨g,c',cur,e,h1,h2,h3⟩
     ·cases e
     ·cases e
      exact block_lt h2
    rw[Nat.zero_mul] at hat
    obtain⟨l0,l1,l2,l3,l4⟩:=hat
    rw[Nat.zero_add] at l1 l2 l3 l4
    subst hRA
    clear hbx0 hLL hRL hne hB0
    subst hla hK1
    generalize hR0:R 0=R0 at *
    obtain⟨r0,r1,r2,r3,rn,rf⟩:=R0
    generalize A 0=a0 at *
    generalize C 0=c0 at *
    generalize G 0=g0 at *
    have zne:¬ w.heap.size=gl:=by omega
    have zne2:¬ gl=w.heap.size:=by omega
    have l0':WH.cell? ⟨gl,0,none⟩=some (.int .i64 r0):=l0
    have l1':WH.cell? ⟨gl,1,none⟩=some (.int .i64 r1):=l1
    have l2':WH.cell? ⟨gl,2,none⟩=some (.int .i64 r2):=l2
    have l3':WH.cell? ⟨gl,3,none⟩=some (.int .i64 r3):=l3
    have l4':WH.cell? ⟨gl,4,none⟩=some (.slice a0 rn c0):=l4
    clear l0 l1 l2 l3 l4
    go_wp2_with fail
    refine bodyPost_ret (v:=.tuple #[.agg #[.int .i64 r0,.int .i64 r1,.int .i64 r2,.int .i64 r3,.slice a0 rn c0],.int .i64 0]) ?_ rfl ⟨?_,.inl ⟨HYES.out,_,⟨_,rfl⟩,?_⟩⟩
    ·simp[results,Tryd.results31,go_sem, *]
    ·iterate 5 refine Below.setCell ?_ (by exact Nat.le_refl _) _
     exact HB0.out
    ·refine (RowOwn.keep HRO.out (fun hn=>?_)).came
     have:=(HRO.out.lt hn).2
     iterate 5 rw [heap_setCell_other _ _ _ _ (by show ¬ g0=w.heap.size; omega)]
end Go.Proofs.YtcbbcadfolgioaaDoor
