/-
  Texts of the proof, put together.
-/
import Derived.Test.YtdpfnkcogneanaaDoorBy02
import Derived.BigQuiet
import Derived.Deep.RegionHeld3
import Derived.Laws.AppendOwnNone
namespace Go.Proofs.YtdpfnkcogneanaaDoor
section
open Go.RowKit Go.Joins RastMath PassMath ScanMath
theorem rowB_rb {w N D:Nat} {c d:Int} (hw:1≤w∧w≤24) (hd:DepthR c d) (hN:chan c=(N:Int)) (hD:d=(D:Int)):rowB (w:Int) c d=(rb (w * N) D:Int):=by
 unfold rowB rb
 rw[if_pos ⟨⟨by omega,by omega⟩,hd⟩,hN,hD]
 simp
set_option maxRecDepth 100000 in
set_option maxHeartbeats 3200000 in
theorem specScanBytes_in (W H N D:Nat) (c d:Int) (lace:Bool) (w:World) (hW:1≤W∧W≤24) (hH:1≤H∧H≤24) (hd:DepthR c d) (hN:chan c=(N:Int)) (hD:d=(D:Int)):
  Calls Tryd.prog 17 #[.int .i64 (W:Int),.int .i64 (H:Int),.int .i64 c,.int .i64 d,.bool lace] w fun e w'=>e=.returned (.int .i64 (scanN lace W H N D:Int))∧Below w.heap.size w w':=by
 have h1:=specSide (W:Int)
 have h2:=specSide (H:Int)
 have h3:=specDepthOk c d
 rw[decide_eq_true (show SideR (W:Int) from ⟨by omega,by omega⟩)] at h1
 rw[decide_eq_true (show SideR (H:Int) from ⟨by omega,by omega⟩)] at h2
 rw[decide_eq_true hd] at h3
 have hN4:N≤4:=by have:=(chan_range c).2; omega
 have hD16:D≤16:=by have:=five_range (depth_five hd); omega
 have hsz:=specSizes lace W H w hW hH
 have HRB:Hid (∀ p,1≤cwL lace W H p→∀ V,Calls Tryd.prog 45 #[.int .i64 (cwL lace W H p:Int),.int .i64 c,.int .i64 d] V fun e w'=>e=.returned (.int .i64 (rb (cwL lace W H p * N) D:Int))∧w'=V):=fun p hp V=>by
  have:=specRowBytes (cwL lace W H p:Int) c d V
  rw[rowB_rb ⟨hp,Nat.le_trans (cwL_le _ _ _ _) hW.2⟩ hd hN hD] at this
  exact this
 have HBD:Hid (∀ p,rb (cwL lace W H p * N) D≤200∧chL lace W H p≤24):=fun p=>⟨rb_small (part_s hW.2 hN4) hD16,Nat.le_trans (chL_le _ _ _ _) hH.2⟩
 have HZ:Hid (∀ p,cwL lace W H p=0→chL lace W H p=0):=fun p h=>by
  rcases Nat.eq_zero_or_pos (chL lace W H p) with e | e
  ·exact e
  ·have:=cwL_pos (lace:=lace) (p:=p) hW.1 e
   omega
 have HOF:Hid (∀ p,offP (cwL lace W H) (chL lace W H) N D (p+1)=offP (cwL lace W H) (chL lace W H) N D p+chL lace W H p * (rb (cwL lace W H p * N) D+1)):=fun p=>rfl
 have HOS:Hid (∀ p,p≤7→offP (cwL lace W H) (chL lace W H) N D p≤7 * 4824):=fun p hp=>Nat.le_trans (offP_small hW.2 hH.2 hN4 hD16 p) (Nat.mul_le_mul_right _ hp)
 have HO0:Hid (offP (cwL lace W H) (chL lace W H) N D 0=0):=rfl
 have hcnt:=cntL_le lace
 unfold scanN
 generalize offP (cwL lace W H) (chL lace W H) N D=OF at *
 generalize cntL lace=K at *
 clear hd hN hD
 go_enter Tryd.func17,Tryd.ntmps17
 go_wp2_with fail
 refine (h1 _).mono ?_
 rintro e w1 ⟨rfl,rfl⟩
 go_wp2_with fail
 refine (h2 _).mono ?_
 rintro e w2 ⟨rfl,rfl⟩
 go_wp2_with fail
 refine (h3 _).mono ?_
 rintro e w3 ⟨rfl,rfl⟩
 go_wp2_with fail
 refine hsz.mono ?_
 rintro e w4 ⟨a4,c4,rfl,hS4,hB4⟩
 have HS4:=hid_of hS4
 have HB4:=hid_of hB4
 clear hS4 hB4 hsz h1 h2 h3
 go_wp2_with fail
 go_loopg [11,13] 8 (fun gk v i w'=>∃ p:Nat,p≤K∧K - p≤gk∧v=.int .i64 (OF p:Int)∧i=.int .i64 (p:Int)∧Hid (Below w4.heap.size w4 w'))
 case atStart=>exact⟨0,Nat.zero_le _,by omega,by rw [HO0.out]; rfl,rfl,Below.refl _ _⟩
 case round=>
  obtain⟨p,hp,hgk,rfl,rfl,hI⟩:=hrel
  by_cases hlt:p < K
  ·have dl:decide ((p:Int) < (K:Int))=true:=decide_eq_true (by omega)
   have x7:(p:Int) < (K:Int):=by omega
   obtain⟨g,rfl,hg,hc⟩:=HS4.out.called hI.out
   obtain⟨b,l1,lb,l2,l3⟩:=hc p hlt
   have hnx:=HOF.out p
   have hrb:=HRB.out p
   have hz:=HZ.out p
   obtain⟨hb1,hb2⟩:=HBD.out p
   have hos:=HOS.out p (by omega)
   generalize cwL lace W H p=CW at *
   generalize chL lace W H p=CH at *
   generalize rb (CW * N) D=RB at *
   obtain⟨PR,hPR⟩:∃ PR,PR=CH * (RB+1):=⟨_,rfl⟩
   have hPRb:PR≤24 * 201:=by rw [hPR]; exact Nat.mul_le_mul hb2 (by omega)
   have e1:(CH:Int) * (1+(RB:Int))=(PR:Int):=by rw [hPR,Int.add_comm]; simp
   rw[← hPR] at hnx
   have HNX:=hid_of hnx
   clear hc hnx
   by_cases h0:CW=0
   ·have hch:CH=0:=hz h0
    have HP0:Hid (PR=0):=by rw [hPR,hch,Nat.zero_mul]; rfl
    subst h0
    clear hPR hrb hz
    go_wp2_with fail
    go_roundg (K - (p+1))
    case measure=>omega
    case rel=>exact⟨p+1,by omega,Nat.le_refl _,by rw [HNX.out,HP0.out,Nat.add_zero],by go_num,hI⟩
   ·have d0:(0:Int) < (CW:Int):=by omega
    have hrb2:=hrb (by omega)
    clear hPR hz hrb h0
    go_wp2_with fail
    go_quiet ((go_at_call 45; exact Calls.quiet_of_same (hrb2 _)))
    go_wp2_with fail
    go_roundg (K - (p+1))
    case measure=>omega
    case rel=>exact⟨p+1,by omega,Nat.le_refl _,by rw [HNX.out]; go_num,by go_num,bdraws hI.out _⟩
  ·obtain rfl:p=K:=by omega
   go_wp2_with fail
   go_ret
   exact⟨rfl,bnext HB4.out hI.out⟩
set_option maxHeartbeats 1600000 in
theorem specScanBytes (W H c d:Int) (lace:Bool) (w:World):Calls Tryd.prog 17 #[.int .i64 W,.int .i64 H,.int .i64 c,.int .i64 d,.bool lace] w fun e w'=>e=.returned (.int .i64 (scanB W H c d lace))∧Below w.heap.size w w':=by
 have h1:=specSide W
 have h2:=specSide H
 have h3:=specDepthOk c d
 by_cases hW:SideR W
 ·rw[decide_eq_true hW] at h1
  by_cases hH:SideR H
  ·rw[decide_eq_true hH] at h2
   by_cases hd:DepthR c d
   ·obtain⟨A,rfl⟩:=Int.eq_ofNat_of_zero_le (show 0≤W by have:=hW.1; omega)
    obtain⟨B,rfl⟩:=Int.eq_ofNat_of_zero_le (show 0≤H by have:=hH.1; omega)
    obtain⟨N,hN⟩:=Int.eq_ofNat_of_zero_le (chan_range c).1
    have h5:=five_range (depth_five hd)
    obtain⟨D,hD⟩:=Int.eq_ofNat_of_zero_le (show 0≤d by omega)
    have hA:1≤A∧A≤24:=by have:=hW.1; have:=hW.2; omega
    have hB:1≤B∧B≤24:=by have:=hH.1; have:=hH.2; omega
    rw[scanB_in hA hB hd hN hD]
    exact specScanBytes_in A B N D c d lace w hA hB hd hN hD
   ·rw[decide_eq_false hd] at h3
    unfold scanB
    rw[if_neg (fun h=>hd h.2.2)]
    clear hW hH hd
    go_enter Tryd.func17,Tryd.ntmps17
    go_wp2_with fail
    refine (h1 _).mono ?_
    rintro e w1 ⟨rfl,rfl⟩
    go_wp2_with fail
    refine (h2 _).mono ?_
    rintro e w2 ⟨rfl,rfl⟩
    go_wp2_with fail
    refine (h3 _).mono ?_
    rintro e w3 ⟨rfl,rfl⟩
    go_wp2_with fail
    go_ret
    exact⟨rfl,Below.refl _ _⟩
  ·rw[decide_eq_false hH] at h2
   unfold scanB
   rw[if_neg (fun h=>hH h.2.1)]
   clear hW hH
   go_enter Tryd.func17,Tryd.ntmps17
   go_wp2_with fail
   refine (h1 _).mono ?_
   rintro e w1 ⟨rfl,rfl⟩
   go_wp2_with fail
   refine (h2 _).mono ?_
   rintro e w2 ⟨rfl,rfl⟩
   go_wp2_with fail
   go_ret
   exact⟨rfl,Below.refl _ _⟩
 ·rw[decide_eq_false hW] at h1
  unfold scanB
  rw[if_neg (fun h=>hW h.1)]
  clear hW
  go_enter Tryd.func17,Tryd.ntmps17
  go_wp2_with fail
  refine (h1 _).mono ?_
  rintro e w1 ⟨rfl,rfl⟩
  go_wp2_with fail
  go_ret
  exact⟨rfl,Below.refl _ _⟩
end
section
open Go.RowKit Go.Joins RastMath ScanMath
theorem FnExactScanBytes_over (hA:ScanBytesAnswer) (W H c d:Int) (lace:Bool) (w:World) (hW:(Lit.int .i64 W).wf=true) (hH:(Lit.int .i64 H).wf=true) (hc:(Lit.int .i64 c).wf=true) (hd:(Lit.int .i64 d).wf=true) (hG:GridG w):Calls Tryd.prog 5 #[.int .i64 W,.int .i64 H,.int .i64 c,.int .i64 d,.bool lace] w fun e w'=>e=.returned (.bool true)∧Below w.heap.size w w':=by
 have h1:=specScanBytes W H c d lace
 have h2:=fun V (h:GridG V)=>hA W H c d lace V hW hH hc hd h
 generalize scanB W H c d lace=a at *
 have n0:(a != a)=false:=by simp
 have HG:=hid_of hG
 clear hA hG
 go_enter Tryd.func5,Tryd.ntmps5
 go_wp2_with fail
 refine (h1 _).mono ?_
 rintro e w1 ⟨rfl,hB1⟩
 have HB1:=hid_of hB1
 clear hB1
 go_wp2_with fail
 refine (h2 _ (HG.out.called HB1.out)).mono ?_
 rintro e w2 ⟨rfl,hB⟩
 have HB:=hid_of (bnext HB1.out hB)
 clear hB
 go_wp2_with fail
 go_ret
 exact⟨rfl,HB.out⟩
end
section
open Go.RowKit Go.Joins RastMath
theorem beq_of1 {a b:Int} (h:a=b):(a == b)=true:=by simpa using h
theorem beq_no1 {a b:Int} (h:¬ a=b):(a == b)=false:=by simpa using h
def IdxPost (f:Nat→Int) (n:Nat) (x:Int) (w:World) (e:Ending) (w':World):Prop:=∃ z:Int,e=.returned (.int .i64 z)∧(0≤z↔∃ i,i < n∧f i=x)∧w'=w
set_option maxHeartbeats 800000 in
theorem index_any (a:Option Addr) (n cap:Nat) (f:Nat→Int) (x:Int) (w:World) (hC:Came w a n f) (hn:n≤1048576):
  Calls Tryd.prog 106 #[.slice a n cap,.int .i64 x] w (IdxPost f n x w):=by
 have HC:=hid_of hC
 clear hC
 go_enter Tryd.func106,Tryd.ntmps106
 go_wp2_with fail
 go_loop [8] (fun i=>∃ j:Nat,j≤n∧i=.int .i64 j∧Hid (∀ i,i < j→¬ f i=x)) (fun i=>n - (intOf i).toNat)
 case atStart=>exact⟨0,Nat.zero_le _,rfl,fun i hi=>absurd hi (Nat.not_lt_zero i)⟩
 case round=>
  obtain⟨j,hj,rfl,hok⟩:=hrel
  by_cases hlt:j < n
  ·rcases HC.out with h0 | ⟨g,off,rfl,hg,hc⟩
   ·omega
   ·have c0:=hc j hlt
    clear hc
    by_cases hin:f j=x
    ·have HK:Hid (∃ i,i < n∧f i=x):=⟨j,hlt,hin⟩
     have d0:(x == f j)=true:=beq_of1 hin.symm
     clear hin
     go_wp2_with fail
     go_ret
     exact⟨(j:Int),rfl,⟨fun _=>HK.out,fun _=>by omega⟩,rfl⟩
    ·have HN:Hid (∀ i,i < j+1→¬ f i=x):=fun i hi=>by
      by_cases e:i=j
      ·rw[e]; exact hin
      ·exact hok.out i (by omega)
     have d0:(x == f j)=false:=beq_no1 fun h=>hin h.symm
     clear hin
     go_wp2_with fail
     go_round
     case rel=>exact⟨j+1,by omega,by go_num,HN⟩
     case measure=>simp [intOf]; omega
  ·obtain rfl:j=n:=by omega
   go_wp2_with fail
   go_ret
   exact⟨-1,rfl,⟨fun h=>absurd h (by omega),fun ⟨i,hi,h⟩=>absurd h (hok.out i hi)⟩,rfl⟩
def ContPost (f:Nat→Int) (n:Nat) (x:Int) (w:World) (e:Ending) (w':World):Prop:=e=.returned (.bool (decide (∃ i,i < n∧f i=x)))∧w'=w
theorem contains_any (a:Option Addr) (n cap:Nat) (f:Nat→Int) (x:Int) (w:World) (hC:Came w a n f) (hn:n≤1048576):
  Calls Tryd.prog 95 #[.slice a n cap,.int .i64 x] w (ContPost f n x w):=by
 have h:=index_any a n cap f x w hC hn
 clear hC
 go_enter Tryd.func95,Tryd.ntmps95
 go_wp2_with fail
 refine h.mono ?_
 rintro e w1 ⟨z,rfl,hz,rfl⟩
 have hd:decide (0≤z)=decide (∃ i,i < n∧f i=x):=decide_eq_decide.mpr hz
 have HD:=hid_of hd
 clear hz hd h
 go_wp2_with fail
 go_ret
 refine⟨?_,rfl⟩
 rw[HD.out]
 rfl
def fiveL (i:Nat):Int:=[1,2,4,8,16].getD i 0
theorem five_has (d:Int):(∃ i,i < 5∧fiveL i=d)↔Five d:=by
 unfold Five fiveL
 constructor
 ·rintro⟨i,hi,rfl⟩
  match i,hi with
  | 0,_=>simp
  | 1,_=>simp
  | 2,_=>simp
  | 3,_=>simp
  | 4,_=>simp
  | k+5,hk=>omega
 ·rintro (rfl | rfl | rfl | rfl | rfl)
  ·exact⟨0,by omega,rfl⟩
  ·exact⟨1,by omega,rfl⟩
  ·exact⟨2,by omega,rfl⟩
  ·exact⟨3,by omega,rfl⟩
  ·exact⟨4,by omega,rfl⟩
theorem isDepth_any (d:Int) (w:World):Calls Tryd.prog 72 #[.int .i64 d] w fun e w'=>e=.returned (.bool (decide (Five d)))∧Below w.heap.size w w':=by
 have h:Hid (∀ W:World,W=w.alloc (.cells #[.int .i64 1,.int .i64 2,.int .i64 4,.int .i64 8,.int .i64 16] 3)→Calls Tryd.prog 95 #[.slice (some ⟨w.heap.size,0,none⟩) 5 5,.int .i64 d] W fun e w'=>e=.returned (.bool (decide (Five d)))∧w'=W):=by
  rintro W rfl
  have hc:Came (w.alloc (.cells #[.int .i64 1,.int .i64 2,.int .i64 4,.int .i64 8,.int .i64 16] 3)) (some ⟨w.heap.size,0,none⟩) 5 fiveL:=by
   refine .inr ⟨w.heap.size,0,rfl,by simp,fun j hj=>?_⟩
   rw[Nat.zero_add,cell_of_block (heap_alloc_new w _) j]
   match j,hj with
   | 0,_=>rfl
   | 1,_=>rfl
   | 2,_=>rfl
   | 3,_=>rfl
   | 4,_=>rfl
   | k+5,hk=>omega
  refine (contains_any (some ⟨w.heap.size,0,none⟩) 5 5 fiveL d _ hc (by omega)).mono ?_
  rintro e w' ⟨rfl,rfl⟩
  refine⟨?_,rfl⟩
  rw[decide_eq_decide.mpr (five_has d)]
 have hB:=hid_of (bstart w (.cells #[.int .i64 1,.int .i64 2,.int .i64 4,.int .i64 8,.int .i64 16] 3))
 generalize decide (Five d)=b at h ⊢
 go_enter Tryd.func72,Tryd.ntmps72
 go_wp2_with fail
 refine (h.out _ rfl).mono ?_
 rintro e w1 ⟨rfl,rfl⟩
 go_wp2_with fail
 go_ret
 exact⟨rfl,hB.out⟩
theorem isSide_any (n:Int) (w:World):Calls Tryd.prog 32 #[.int .i64 n] w fun e w'=>e=.returned (.bool (decide (SideR n)))∧w'=w:=by
 by_cases h1:1≤n
 ·have d1:decide (1≤n)=true:=decide_eq_true h1
  have hh:decide (SideR n)=decide (n≤24):=decide_eq_decide.mpr ⟨fun h=>h.2,fun h=>⟨h1,h⟩⟩
  rw[hh]
  clear h1 hh
  generalize hb:decide (n≤24)=b
  go_enter Tryd.func32,Tryd.ntmps32
  go_wp2_with fail
  go_ret
  exact⟨rfl,rfl⟩
 ·have d1:decide (1≤n)=false:=decide_eq_false h1
  rw[decide_eq_false (fun h:SideR n=>h1 h.1)]
  clear h1
  go_enter Tryd.func32,Tryd.ntmps32
  go_wp2_with fail
  go_ret
  exact⟨rfl,rfl⟩
theorem rowFor_any (c:Int) (w:World) (h1:0≤c) (h2:c≤96000):
  Calls Tryd.prog 89 #[.int .i64 c] w fun e w'=>e=.returned (.int .i64 ((c+7) / 8))∧w'=w:=by
 go_enter Tryd.func89,Tryd.ntmps89
 go_wp2_with fail
 go_ret
 exact⟨rfl,rfl⟩
theorem implChannels (c:Int) (w:World):Calls Tryd.prog 67 #[.int .i64 c] w fun e w'=>e=.returned (.int .i64 (chan c))∧w'=w:=by
 unfold chan
 by_cases h0:c=0
 ·subst h0
  go_enter Tryd.func67,Tryd.ntmps67
  go_wp2_with fail
  go_ret
  exact⟨rfl,rfl⟩
 by_cases h3:c=3
 ·subst h3
  go_enter Tryd.func67,Tryd.ntmps67
  go_wp2_with fail
  go_ret
  exact⟨rfl,rfl⟩
 by_cases h2:c=2
 ·subst h2
  go_enter Tryd.func67,Tryd.ntmps67
  go_wp2_with fail
  go_ret
  exact⟨rfl,rfl⟩
 by_cases h4:c=4
 ·subst h4
  go_enter Tryd.func67,Tryd.ntmps67
  go_wp2_with fail
  go_ret
  exact⟨rfl,rfl⟩
 by_cases h6:c=6
 ·subst h6
  go_enter Tryd.func67,Tryd.ntmps67
  go_wp2_with fail
  go_ret
  exact⟨rfl,rfl⟩
 rw[if_neg (by omega),if_neg h2,if_neg h4,if_neg h6]
 have b0:=beq_no1 h0
 have b3:=beq_no1 h3
 have b2:=beq_no1 h2
 have b4:=beq_no1 h4
 have b6:=beq_no1 h6
 go_enter Tryd.func67,Tryd.ntmps67
 go_wp2_with fail
 go_ret
 exact⟨rfl,rfl⟩
theorem implDepth (c d:Int) (w:World):Calls Tryd.prog 33 #[.int .i64 c,.int .i64 d] w fun e w'=>e=.returned (.bool (decide (DepthR c d)))∧Below w.heap.size w w':=by
 by_cases h0:c=0
 ·subst h0
  have h:=isDepth_any d
  rw[show decide (Five d)=decide (DepthR 0 d) from decide_eq_decide.mpr ⟨fun h=>.inl ⟨rfl,h⟩,depth_five⟩] at h
  generalize decide (DepthR 0 d)=b at h ⊢
  go_enter Tryd.func33,Tryd.ntmps33
  go_wp2_with fail
  refine (h _).mono ?_
  rintro e w1 ⟨rfl,hB⟩
  have HB:=hid_of hB
  clear hB
  go_wp2_with fail
  go_ret
  exact⟨rfl,HB.out⟩
 by_cases h3:c=3
 ·subst h3
  by_cases h5:Five d
  ·have h:=isDepth_any d
   rw[decide_eq_true h5] at h
   have hh:decide (DepthR 3 d)=(d != 16):=by
    by_cases e:d=16
    ·subst e; decide
    ·rw[decide_eq_true (show DepthR 3 d from .inr (.inl ⟨rfl,h5,e⟩))]
     simp[e]
   rw[hh]
   clear h5 hh
   generalize hb:(d != 16)=b
   go_enter Tryd.func33,Tryd.ntmps33
   go_wp2_with fail
   refine (h _).mono ?_
   rintro e w1 ⟨rfl,hB⟩
   have HB:=hid_of hB
   clear hB
   go_wp2_with fail
   go_ret
   exact⟨rfl,HB.out⟩
  ·have h:=isDepth_any d
   rw[decide_eq_false h5] at h
   rw[decide_eq_false (fun h:DepthR 3 d=>h5 (depth_five h))]
   clear h5
   go_enter Tryd.func33,Tryd.ntmps33
   go_wp2_with fail
   refine (h _).mono ?_
   rintro e w1 ⟨rfl,hB⟩
   have HB:=hid_of hB
   clear hB
   go_wp2_with fail
   go_ret
   exact⟨rfl,HB.out⟩
 have hd:d=8∨d=16∨(¬ d=8∧¬ d=16):=by omega
 have hc:c=2∨c=4∨c=6∨(¬ c=2∧¬ c=4∧¬ c=6):=by omega
 rcases hc with rfl | rfl | rfl | ⟨h2,h4,h6⟩
 all_goals
  rcases hd with rfl | rfl | ⟨h8,h16⟩
 all_goals
  first
   | (rw [decide_eq_true (show DepthR _ _ by unfold DepthR Five; omega)])
   | (rw [decide_eq_false (show ¬ DepthR _ _ by unfold DepthR Five; omega)])
  try (have e0:=beq_no1 h0; have e3:=beq_no1 h3; have e2:=beq_no1 h2; have e4:=beq_no1 h4; have e6:=beq_no1 h6; clear h0 h3 h2 h4 h6)
  try (have g8:=beq_no1 h8; have g16:=beq_no1 h16; clear h8 h16)
  go_enter Tryd.func33,Tryd.ntmps33
  go_wp2_with fail
  go_ret
  exact⟨rfl,Below.refl _ _⟩
end
section
open Go.RowKit Go.Joins RastMath PassMath
theorem isPass_any (p:Int) (w:World):Calls Tryd.prog 73 #[.int .i64 p] w fun e w'=>e=.returned (.bool (decide (PassR p)))∧w'=w:=by
 by_cases h1:0≤p
 ·have d1:decide (0≤p)=true:=decide_eq_true h1
  have hh:decide (PassR p)=decide (p < 7):=decide_eq_decide.mpr ⟨fun h=>by have:=h.2; omega,fun h=>⟨h1,by omega⟩⟩
  rw[hh]
  clear h1 hh
  generalize hb:decide (p < 7)=b
  go_enter Tryd.func73,Tryd.ntmps73
  go_wp2_with fail
  go_ret
  exact⟨rfl,rfl⟩
 ·have d1:decide (0≤p)=false:=decide_eq_false h1
  rw[decide_eq_false (fun h:PassR p=>h1 h.1)]
  clear h1
  go_enter Tryd.func73,Tryd.ntmps73
  go_wp2_with fail
  go_ret
  exact⟨rfl,rfl⟩
theorem stepsIn_any (s f t:Nat) (w:World) (hs:s≤24) (hf:f≤4) (ht:1≤t∧t≤8):
  Calls Tryd.prog 74 #[.int .i64 (s:Int),.int .i64 (f:Int),.int .i64 (t:Int)] w fun e w'=>e=.returned (.int .i64 (cntP s f t:Int))∧w'=w:=by
 unfold cntP
 by_cases h:f < s
 ·rw[if_pos h]
  obtain⟨q,hq⟩:∃ q,q=(s - f - 1) / t:=⟨_,rfl⟩
  have hqb:q≤24:=by rw [hq]; exact Nat.le_trans (Nat.div_le_self _ _) (by omega)
  have d0:decide ((s:Int)≤(f:Int))=false:=decide_eq_false (by omega)
  have e1:((s:Int) - (f:Int) - 1)=((s - f - 1:Nat):Int):=by omega
  have e2:((s:Int) - (f:Int) - 1) / (t:Int)=(q:Int):=by rw [e1,hq]; simp
  have e3:((s:Int) - (f:Int) - 1).tdiv (t:Int)=(q:Int):=by rw [e1,hq,Int.tdiv_eq_ediv_of_nonneg (by omega)]; simp
  have n0:¬ ((t:Int)=0):=by omega
  rw[← hq]
  clear hq e1
  go_enter Tryd.func74,Tryd.ntmps74
  go_wp2_with fail
  go_ret
  exact⟨by go_num,rfl⟩
 ·rw[if_neg h]
  have d0:s≤f:=by omega
  clear h
  go_enter Tryd.func74,Tryd.ntmps74
  go_wp2_with fail
  go_ret
  exact⟨rfl,rfl⟩
set_option maxHeartbeats 1600000 in
theorem passSize_any (W H p:Int) (w:World) (hG:GridG w):Calls Tryd.prog 34 #[.int .i64 W,.int .i64 H,.int .i64 p] w fun e w'=>e=.returned (.tuple #[.int .i64 (wideV W H p),.int .i64 (highV W H p)])∧Below w.heap.size w w':=by
 have hi:=isPass_any p
 have h1:=isSide_any W
 have h2:=isSide_any H
 unfold wideV highV
 by_cases hp:PassR p
 ·rw[decide_eq_true hp] at hi
  by_cases hw:SideR W
  ·rw[decide_eq_true hw] at h1
   by_cases hh:SideR H
   ·rw[decide_eq_true hh] at h2
    rw[if_pos ⟨hw,hh,hp⟩,if_pos ⟨hw,hh,hp⟩]
    obtain⟨n,hn⟩:=Int.eq_ofNat_of_zero_le hp.1
    subst hn
    obtain⟨A,hA⟩:=Int.eq_ofNat_of_zero_le (show 0≤W by have:=hw.1; omega)
    subst hA
    obtain⟨B,hB⟩:=Int.eq_ofNat_of_zero_le (show 0≤H by have:=hh.1; omega)
    subst hB
    have hn7:n < 7:=by have:=hp.2; omega
    have hA24:A≤24:=by have:=hw.2; omega
    have hB24:B≤24:=by have:=hh.2; omega
    obtain⟨c0,c1,c2,c3⟩:=hG.2 n hn7
    have lg:=hG.1
    rw[Int.toNat_natCast,Int.toNat_natCast,Int.toNat_natCast]
    unfold pw ph
    have hs1:=fun V=>stepsIn_any A (px n) (pdx n) V hA24 (px_le hn7).1 (pdx_pos hn7)
    have hs2:=fun V=>stepsIn_any B (py n) (pdy n) V hB24 (px_le hn7).2 (pdy_pos hn7)
    generalize cntP A (px n) (pdx n)=K1 at *
    generalize cntP B (py n) (pdy n)=K2 at *
    generalize px n=a0 at *
    generalize py n=a1 at *
    generalize pdx n=a2 at *
    generalize pdy n=a3 at *
    have HB:=hid_of (bstart w (.cells #[.int .i64 (a0:Int),.int .i64 (a1:Int),.int .i64 (a2:Int),.int .i64 (a3:Int)] 89))
    have HR:Hid (((K1=0∨K2=0)→(if K1=0∨K2=0 then 0 else K1)=0∧(if K1=0∨K2=0 then 0 else K2)=0)∧(¬ (K1=0∨K2=0)→(if K1=0∨K2=0 then 0 else K1)=K1∧(if K1=0∨K2=0 then 0 else K2)=K2)):=⟨fun h=>⟨if_pos h,if_pos h⟩,fun h=>⟨if_neg h,if_neg h⟩⟩
    generalize (if K1=0∨K2=0 then 0 else K1)=r1 at HR ⊢
    generalize (if K1=0∨K2=0 then 0 else K2)=r2 at HR ⊢
    clear hG hp hw hh
    go_enter Tryd.func34,Tryd.ntmps34
    go_wp2_with fail
    refine (hi _).mono ?_
    rintro e w1 ⟨rfl,rfl⟩
    go_wp2_with fail
    refine (h1 _).mono ?_
    rintro e w2 ⟨rfl,rfl⟩
    go_wp2_with fail
    refine (h2 _).mono ?_
    rintro e w1 ⟨rfl,rfl⟩
    go_wp2_with fail
    go_quiet ((go_at_call 74; first | (guard_target=Calls _ _ #[Value.int IntKind.i64 (A:Int),_,_] _ _; exact Calls.quiet_of_same (hs1 _)) | (guard_target=Calls _ _ #[Value.int IntKind.i64 (B:Int),_,_] _ _; exact Calls.quiet_of_same (hs2 _))))
    by_cases e1:K1=0
    ·obtain⟨u1,u2⟩:=HR.out.1 (.inl e1)
     subst e1 u1 u2
     go_wp2_with fail
     refine bodyPost_ret (v:=.tuple #[.int .i64 0,.int .i64 0]) ?_ rfl ⟨rfl,bdraws HB.out _⟩
     simp[results,Tryd.results34,go_sem]
    ·have b1:((K1:Int) == 0)=false:=by simp; omega
     by_cases e2:K2=0
     ·obtain⟨u1,u2⟩:=HR.out.1 (.inr e2)
      subst e2 u1 u2
      go_wp2_with fail
      refine bodyPost_ret (v:=.tuple #[.int .i64 0,.int .i64 0]) ?_ rfl ⟨rfl,bdraws HB.out _⟩
      simp[results,Tryd.results34,go_sem]
     ·have b2:((K2:Int) == 0)=false:=by simp; omega
      obtain⟨u1,u2⟩:=HR.out.2 (by omega)
      subst u1 u2
      go_wp2_with fail
      refine bodyPost_ret (v:=.tuple #[.int .i64 (r1:Int),.int .i64 (r2:Int)]) ?_ rfl ⟨rfl,bdraws HB.out _⟩
      simp[results,Tryd.results34,go_sem]
   ·rw[decide_eq_false hh] at h2
    rw[if_neg (fun h=>hh h.2.1),if_neg (fun h=>hh h.2.1)]
    clear hp hw hh
    go_enter Tryd.func34,Tryd.ntmps34
    go_wp2_with fail
    refine (hi _).mono ?_
    rintro e w1 ⟨rfl,rfl⟩
    go_wp2_with fail
    refine (h1 _).mono ?_
    rintro e w2 ⟨rfl,rfl⟩
    go_wp2_with fail
    refine (h2 _).mono ?_
    rintro e w1 ⟨rfl,rfl⟩
    go_wp2_with fail
    refine bodyPost_ret (v:=.tuple #[.int .i64 0,.int .i64 0]) ?_ rfl ⟨rfl,Below.refl _ _⟩
    simp[results,Tryd.results34,go_sem]
  ·rw[decide_eq_false hw] at h1
   rw[if_neg (fun h=>hw h.1),if_neg (fun h=>hw h.1)]
   clear hp hw
   go_enter Tryd.func34,Tryd.ntmps34
   go_wp2_with fail
   refine (hi _).mono ?_
   rintro e w1 ⟨rfl,rfl⟩
   go_wp2_with fail
   refine (h1 _).mono ?_
   rintro e w2 ⟨rfl,rfl⟩
   go_wp2_with fail
   refine bodyPost_ret (v:=.tuple #[.int .i64 0,.int .i64 0]) ?_ rfl ⟨rfl,Below.refl _ _⟩
   simp[results,Tryd.results34,go_sem]
 ·rw[decide_eq_false hp] at hi
  rw[if_neg (fun h=>hp h.2.2),if_neg (fun h=>hp h.2.2)]
  clear hp
  go_enter Tryd.func34,Tryd.ntmps34
  go_wp2_with fail
  refine (hi _).mono ?_
  rintro e w1 ⟨rfl,rfl⟩
  go_wp2_with fail
  refine bodyPost_ret (v:=.tuple #[.int .i64 0,.int .i64 0]) ?_ rfl ⟨rfl,Below.refl _ _⟩
  simp[results,Tryd.results34,go_sem]
end
end Go.Proofs.YtdpfnkcogneanaaDoor
