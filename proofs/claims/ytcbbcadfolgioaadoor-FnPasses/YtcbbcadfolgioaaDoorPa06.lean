/-
  Texts of the proof, put together.
-/
import Derived.Test.YtcbbcadfolgioaaDoorPa05
namespace Go.Proofs.YtcbbcadfolgioaaDoor
section
open Go.RowKit Go.Joins RastMath PassMath
set_option maxHeartbeats 1600000 in
theorem sameRaster_same (x0 x1 x2 x3:Int) (a b:Option Addr) (n c1 c2:Nat) (f:Nat→Int) (w:World) (ha:Came w a n f) (hb:Came w b n f) (hn:n≤1048576):
  Calls Tryd.prog 14 #[.agg #[.int .i64 x0,.int .i64 x1,.int .i64 x2,.int .i64 x3,.slice a n c1],.agg #[.int .i64 x0,.int .i64 x1,.int .i64 x2,.int .i64 x3,.slice b n c2]] w fun e w'=>e=.returned (.bool true)∧Below w.heap.size w w':=by
 have HA:=hid_of ha
 have HB:=hid_of hb
 clear ha hb
 have n0:(x0 == x0)=true:=by simp
 have n1:(x1 == x1)=true:=by simp
 have n2:(x2 == x2)=true:=by simp
 have n3:(x3 == x3)=true:=by simp
 go_enter Tryd.func14,Tryd.ntmps14
 go_wp2_with fail
 have HB0:Hid (Below w.heap.size w ((w.alloc (.cells #[.int .i64 x0,.int .i64 x1,.int .i64 x2,.int .i64 x3,.slice a n c1] 26)).alloc (.cells #[.int .i64 x0,.int .i64 x1,.int .i64 x2,.int .i64 x3,.slice b n c2] 26))):=bal (bstart _ _) _
 refine (sameInts_same a b n c1 c2 f _ (HA.out.called HB0.out) (HB.out.called HB0.out) hn).mono ?_
 rintro e w1 ⟨rfl,hB1⟩
 have HB1:=hid_of (bnext HB0.out hB1)
 clear hB1
 go_wp2_with fail
 go_ret
 exact⟨rfl,HB1.out⟩
theorem wf_side14 (n:Nat) (h:n≤24):(Lit.int .i64 (n:Int)).wf=true:=by
 simp[Lit.wf,IntKind.min,IntKind.max,IntKind.signed,IntKind.bits]
 omega
set_option maxRecDepth 100000 in
set_option maxHeartbeats 6400000 in
theorem FnPasses_at (hS:PassSizeAnswer) (hP:PassesAnswer) (hF:FromAnswer) (a:Option Addr) (len cap:Nat) (w:World) (hK:CodeAt w w.heap.size a len) (hl:(len:Int)≤1048576) (hG:GridG w):
  Calls Tryd.prog 3 #[.slice a len cap] w fun e w'=>e=.returned (.bool true)∧Below w.heap.size w w':=by
 have HK:=hid_of hK
 have HG:=hid_of hG
 have HSA:=hid_of hS
 have HPA:=hid_of hP
 have HFA:=hid_of hF
 clear hK hS hP hF hG
 go_enter Tryd.func3,Tryd.ntmps3
 go_wp2_with fail
 refine (big_no a len cap _ hl).mono ?_
 rintro e w0 ⟨rfl,rfl⟩
 go_wp2_with fail
 refine (draw_raster a len cap w0.heap.size w0 HK.out (by omega) (Nat.le_refl _)).mono ?_
 rintro e w1 ⟨r,ar,cr,rfl,hok,hrn,hSr,hcr1,hcr2,hB1⟩
 obtain⟨W,H,N,e0,e1,e2,hW,hH,hN,hn,ep⟩:=ras_parts hok
 have hpass:=fun V hV h=>(HPA.out r ar cr V h (by omega) hcr1 hcr2 hV).1 hok
 have hjoin:=fun (R:Nat→Ras) (hR:∀ p,p < 7→(R p).same (passesR r p))=>join_passes hok hR
 have hsm:=passes_small hok
 have HJ:=hid_of (hjoin (passesR r) (fun p _=>Ras.same.refl _))
 rw[e0,e1] at HJ
 have HPX:Hid (∀ p,p < 7→(passesR r p).x0=(pw W H p:Int)∧(passesR r p).x1=(ph W H p:Int)):=fun p _=>by rw [ep]; exact⟨rfl,rfl⟩
 have hfrom:=fun (V:World) (a':Option Addr) (c':Nat) (hV:GridG V) (h:RCame V a' 7 (passesR r))=>(HFA.out (W:Int) (H:Int) a' 7 c' (passesR r) V h (by omega) (fun j _=>Nat.le_trans (hsm j) (by omega)) (wf_side14 W hW.2) (wf_side14 H hH.2) hV).1 HJ.out.2
 have HCr:=hid_of hSr.came
 have HB1:=hid_of hB1
 have HFR:=hid_of hfrom
 have HPS:=hid_of hpass
 clear hok hSr hB1 hjoin hsm ep hfrom hpass hcr1 hcr2 hn
 obtain⟨x0,x1,x2,x3,n,f⟩:=r
 have hx0:x0=(W:Int):=e0
 have hx1:x1=(H:Int):=e1
 subst hx0 hx1
 clear e0 e1 e2
 have HX:Hid ((w1.alloc (.cells #[.int .i64 (W:Int),.int .i64 (H:Int),.int .i64 x2,.int .i64 x3,.slice ar n cr] 26)).heap[w1.heap.size]?=some (.cells #[.int .i64 (W:Int),.int .i64 (H:Int),.int .i64 x2,.int .i64 x3,.slice ar n cr] 26 (0,0))):=heap_alloc_new w1 _
 have HBX:=hid_of (bal HB1.out (.cells #[.int .i64 (W:Int),.int .i64 (H:Int),.int .i64 x2,.int .i64 x3,.slice ar n cr] 26))
 have HCX:=hid_of (HCr.out.called (bstart w1 (.cells #[.int .i64 (W:Int),.int .i64 (H:Int),.int .i64 x2,.int .i64 x3,.slice ar n cr] 26)))
 go_wp2_with fail
 generalize w1.alloc (.cells #[.int .i64 (W:Int),.int .i64 (H:Int),.int .i64 x2,.int .i64 x3,.slice ar n cr] 26)=W1 at HX HBX HCX ⊢
 generalize w1.heap.size=X at HX ⊢
 refine (HPS.out W1 (HG.out.called HBX.out) HCX.out).mono ?_
 rintro e w2 ⟨a2,c2,rfl,hR2,hB2⟩
 have HR2:=hid_of hR2.came
 have HX2:=hid_of ((hB2.block _ (block_lt HX.out)).trans HX.out)
 have HC2:=hid_of (HCX.out.called hB2)
 have HB2:=hid_of (bnext HBX.out hB2)
 clear hR2 hB2 HX HCX HBX HPS HB1 HCr
 have k0:w2.cell? ⟨X,0,none⟩=some (.int .i64 (W:Int)):=(cell_of_block HX2.out 0).trans rfl
 have k1:w2.cell? ⟨X,1,none⟩=some (.int .i64 (H:Int)):=(cell_of_block HX2.out 1).trans rfl
 have lx:=block_lt HX2.out
 go_wp2_with fail
 refine (HFR.out w2 a2 c2 (HG.out.called HB2.out) HR2.out).mono ?_
 rintro e w3 ⟨a3,c3,rfl,hS3,_,_,hB3⟩
 have HQ3:Hid (Came w3 a3 n f):=by
  have q:=hS3.came
  have hs:=HJ.out.1
  exact Came.same (s:=⟨(W:Int),(H:Int),x2,x3,n,f⟩) q hs
 have EJ:Hid (rasA (joinR (W:Int) (H:Int) (passesR ⟨(W:Int),(H:Int),x2,x3,n,f⟩)) a3 c3=.agg #[.int .i64 (W:Int),.int .i64 (H:Int),.int .i64 x2,.int .i64 x3,.slice a3 n c3]):=by
  obtain⟨s0,s1,s2,s3,s4,_⟩:=HJ.out.1
  show Value.agg _=_
  rw[s0,s1,s2,s3,s4]
 rw[EJ.out]
 have HR3:=hid_of (HR2.out.called hB3)
 have HX3:=hid_of ((hB3.block _ (block_lt HX2.out)).trans HX2.out)
 have HC3:=hid_of (HC2.out.called hB3)
 have HB3:=hid_of (bnext HB2.out hB3)
 clear hS3 hB3 HR2 HX2 HC2 HB2 k0 k1 lx HFR EJ
 have HY:Hid ((w3.alloc (.cells #[.int .i64 (W:Int),.int .i64 (H:Int),.int .i64 x2,.int .i64 x3,.slice a3 n c3] 26)).heap[w3.heap.size]?=some (.cells #[.int .i64 (W:Int),.int .i64 (H:Int),.int .i64 x2,.int .i64 x3,.slice a3 n c3] 26 (0,0))):=heap_alloc_new w3 _
 have HBY:=hid_of (bstart w3 (.cells #[.int .i64 (W:Int),.int .i64 (H:Int),.int .i64 x2,.int .i64 x3,.slice a3 n c3] 26))
 go_wp2_with fail
 generalize w3.alloc (.cells #[.int .i64 (W:Int),.int .i64 (H:Int),.int .i64 x2,.int .i64 x3,.slice a3 n c3] 26)=W3 at HY HBY ⊢
 generalize w3.heap.size=Y at HY ⊢
 have HR4:=hid_of (HR3.out.called HBY.out)
 have HX4:=hid_of ((HBY.out.block _ (block_lt HX3.out)).trans HX3.out)
 have HC4:=hid_of (HC3.out.called HBY.out)
 have HQ4:=hid_of (HQ3.out.called HBY.out)
 have HB4:=hid_of (bnext HB3.out HBY.out)
 clear HR3 HX3 HC3 HQ3 HB3 HBY
 have HPI:Hid (∀ p:Nat,p≤7→pixels W H p≤576):=fun p hp=>by
  have q1:=pixels_mono (W:=W) (H:=H) hp
  rw[pixels_all (by omega) (by omega)] at q1
  exact Nat.le_trans q1 (Nat.mul_le_mul hW.2 hH.2)
 go_loopg [8,9] 8 (fun gk v i w'=>∃ p:Nat,p≤7∧7 - p≤gk∧i=.int .i64 (p:Int)∧v=.int .i64 (pixels W H p:Int)∧Hid (Below W3.heap.size W3 w'))
 case atStart=>exact⟨0,Nat.zero_le _,by omega,rfl,rfl,Below.refl _ _⟩
 case round=>
  obtain⟨p,hp,hgk,rfl,rfl,hI⟩:=hrel
  have HX5:=hid_of ((hI.out.block _ (block_lt HX4.out)).trans HX4.out)
  have k0:wr.cell? ⟨X,0,none⟩=some (.int .i64 (W:Int)):=(cell_of_block HX5.out 0).trans rfl
  have k1:wr.cell? ⟨X,1,none⟩=some (.int .i64 (H:Int)):=(cell_of_block HX5.out 1).trans rfl
  have k2:wr.cell? ⟨X,2,none⟩=some (.int .i64 x2):=(cell_of_block HX5.out 2).trans rfl
  have k3:wr.cell? ⟨X,3,none⟩=some (.int .i64 x3):=(cell_of_block HX5.out 3).trans rfl
  have k4:wr.cell? ⟨X,4,none⟩=some (.slice ar n cr):=(cell_of_block HX5.out 4).trans rfl
  have lx:=block_lt HX5.out
  by_cases hlt:p < 7
  ·have dl:decide ((p:Int) < 7)=true:=decide_eq_true (by omega)
   have hsz:=HSA.out (W:Int) (H:Int) (p:Int) wr (wf_side14 W hW.2) (wf_side14 H hH.2) (wf_side14 p (by omega)) (HG.out.called (bnext HB4.out hI.out))
   obtain⟨ew,eh⟩:=wideV_nat hW hH hlt
   rw[ew,eh] at hsz
   obtain⟨px0,px1⟩:=HPX.out p hlt
   have b4:=pw_le W H p
   have b5:=ph_le W H p
   have HNX:Hid (pixels W H (p+1)=pixels W H p+pw W H p * ph W H p):=rfl
   obtain⟨PP,hPP⟩:∃ PP,PP=pw W H p * ph W H p:=⟨_,rfl⟩
   have m1:(pw W H p:Int) * (ph W H p:Int)=(PP:Int):=by rw [hPP]; simp
   have hPPb:PP≤576:=by rw [hPP]; exact Nat.mul_le_mul (Nat.le_trans b4 hW.2) (Nat.le_trans b5 hH.2)
   rw[← hPP] at HNX
   have hpix:=HPI.out p hp
   clear ew eh hPP
   go_wp2_with fail
   refine hsz.mono ?_
   rintro e w5 ⟨rfl,hB5⟩
   have HI5:=hid_of (bnext hI.out hB5)
   clear hB5 hI k0 k1 k2 k3 k4 lx HX5 hsz
   rcases HR4.out.called HI5.out with q | ⟨g1,o1,A1,C1,rfl,hg1,hc1⟩
   ·omega
   obtain⟨⟨j0,j1,_,_,_⟩,_⟩:=hc1 p hlt
   rw[px0] at j0
   rw[px1] at j1
   clear hc1 px0 px1
   generalize pw W H p=PW at *
   generalize ph W H p=PH at *
   generalize pixels W H p=PI at *
   have bn0:((PW:Int) != (PW:Int))=false:=by simp
   have bn1:((PH:Int) != (PH:Int))=false:=by simp
   have x7:(p:Int) < 7:=by omega
   go_wp2_with fail
   go_roundg (7 - (p+1))
   case measure=>omega
   case rel=>exact⟨p+1,by omega,Nat.le_refl _,by go_num,by rw [HNX.out]; go_num,HI5⟩
  ·obtain rfl:p=7:=by omega
   have hpa:=pixels_all (W:=W) (H:=H) (by omega) (by omega)
   obtain⟨WH,hWH⟩:∃ WH,WH=W * H:=⟨_,rfl⟩
   have f1:(W:Int) * (H:Int)=(WH:Int):=by rw [hWH]; simp
   have hWHb:WH≤576:=by rw [hWH]; exact Nat.mul_le_mul hW.2 hH.2
   rw[← hWH] at hpa
   rw[hpa]
   have bq:((WH:Int) == (WH:Int))=true:=by simp
   have HY5:=hid_of ((hI.out.block _ (block_lt HY.out)).trans HY.out)
   have j0:wr.cell? ⟨Y,0,none⟩=some (.int .i64 (W:Int)):=(cell_of_block HY5.out 0).trans rfl
   have j1:wr.cell? ⟨Y,1,none⟩=some (.int .i64 (H:Int)):=(cell_of_block HY5.out 1).trans rfl
   have j2:wr.cell? ⟨Y,2,none⟩=some (.int .i64 x2):=(cell_of_block HY5.out 2).trans rfl
   have j3:wr.cell? ⟨Y,3,none⟩=some (.int .i64 x3):=(cell_of_block HY5.out 3).trans rfl
   have j4:wr.cell? ⟨Y,4,none⟩=some (.slice a3 n c3):=(cell_of_block HY5.out 4).trans rfl
   have ly:=block_lt HY5.out
   clear hpa hWH
   go_wp2_with fail
   refine (sameRaster_same (W:Int) (H:Int) x2 x3 a3 ar n c3 cr f wr (HQ4.out.called hI.out) (HC4.out.called hI.out) (by show n≤1048576; have:n≤2304:=hrn; omega)).mono ?_
   rintro e w6 ⟨rfl,hB6⟩
   have HB6:=hid_of (bnext (bnext HB4.out hI.out) hB6)
   clear hB6
   go_wp2_with fail
   go_ret
   exact⟨rfl,HB6.out⟩
theorem FnPasses_over (hS:PassSizeAnswer) (hP:PassesAnswer) (hF:FromAnswer) (a:Option Addr) (len cap:Nat) (zs:List Int) (w:World) (hr:IsRow .u8 w a len cap zs) (hG:GridG w):
  Calls Tryd.prog 3 #[.slice a len cap] w fun e w'=>e=.returned (.bool true)∧Below w.heap.size w w':=by
 obtain⟨hC,hl,hc⟩:=codeAt_of_row hr
 unfold maxLen at hc
 by_cases h:(len:Int)≤1048576
 ·exact FnPasses_at hS hP hF a len cap w hC h hG
 ·have d:(1048576:Int) < len:=by omega
  clear hr hC hS hP hF hG
  go_enter Tryd.func3,Tryd.ntmps3
  go_wp2_with fail
  refine (big_yes a len cap _ d (by omega)).mono ?_
  rintro e w1 ⟨rfl,rfl⟩
  go_wp2_with fail
  go_ret
  exact⟨rfl,Below.refl _ _⟩
end
section
open Go.RowKit Go.Joins RastMath
theorem beq_of1 {a b:Int} (h:a=b):(a == b)=true:=by simpa using h
theorem beq_no1 {a b:Int} (h:¬ a=b):(a == b)=false:=by simpa using h
def IdxPost (f:Nat→Int) (n:Nat) (x:Int) (w:World) (e:Ending) (w':World):Prop:=∃ z:Int,e=.returned (.int .i64 z)∧(0≤z↔∃ i,i < n∧f i=x)∧w'=w
set_option maxHeartbeats 800000 in
theorem index_any (a:Option Addr) (n cap:Nat) (f:Nat→Int) (x:Int) (w:World) (hC:Came w a n f) (hn:n≤1048576):
  Calls Tryd.prog 113 #[.slice a n cap,.int .i64 x] w (IdxPost f n x w):=by
 have HC:=hid_of hC
 clear hC
 go_enter Tryd.func113,Tryd.ntmps113
 go_wp2_with fail
 go_loop [8] (fun i=>∃ j:Nat,j≤n∧i=.int .i64 j∧Hid (∀ i,i < j→¬ f i=x)) (fun i=>n - (intOf i).toNat)
 case atStart=>exact⟨0,Nat.zero_le _,rfl,fun i hi=>absurd hi (Nat.not_lt_zero i)⟩
 case round=>
  obtain⟨j,hj,rfl,hok⟩:=hrel
  by_cases hlt:j < n
  ·rcases HC.out with h0 | ⟨g,off,rfl,hg,hc⟩
   ·omega
   ·have c0:=hc j hlt
    clear hc
    by_cases hin:f j=x
    ·have HK:Hid (∃ i,i < n∧f i=x):=⟨j,hlt,hin⟩
     have d0:(x == f j)=true:=beq_of1 hin.symm
     clear hin
     go_wp2_with fail
     go_ret
     exact⟨(j:Int),rfl,⟨fun _=>HK.out,fun _=>by omega⟩,rfl⟩
    ·have HN:Hid (∀ i,i < j+1→¬ f i=x):=fun i hi=>by
      by_cases e:i=j
      ·rw[e]; exact hin
      ·exact hok.out i (by omega)
     have d0:(x == f j)=false:=beq_no1 fun h=>hin h.symm
     clear hin
     go_wp2_with fail
     go_round
     case rel=>exact⟨j+1,by omega,by go_num,HN⟩
     case measure=>simp [intOf]; omega
  ·obtain rfl:j=n:=by omega
   go_wp2_with fail
   go_ret
   exact⟨-1,rfl,⟨fun h=>absurd h (by omega),fun ⟨i,hi,h⟩=>absurd h (hok.out i hi)⟩,rfl⟩
def ContPost (f:Nat→Int) (n:Nat) (x:Int) (w:World) (e:Ending) (w':World):Prop:=e=.returned (.bool (decide (∃ i,i < n∧f i=x)))∧w'=w
theorem contains_any (a:Option Addr) (n cap:Nat) (f:Nat→Int) (x:Int) (w:World) (hC:Came w a n f) (hn:n≤1048576):
  Calls Tryd.prog 104 #[.slice a n cap,.int .i64 x] w (ContPost f n x w):=by
 have h:=index_any a n cap f x w hC hn
 clear hC
 go_enter Tryd.func104,Tryd.ntmps104
 go_wp2_with fail
 refine h.mono ?_
 rintro e w1 ⟨z,rfl,hz,rfl⟩
 have hd:decide (0≤z)=decide (∃ i,i < n∧f i=x):=decide_eq_decide.mpr hz
 have HD:=hid_of hd
 clear hz hd h
 go_wp2_with fail
 go_ret
 refine⟨?_,rfl⟩
 rw[HD.out]
 rfl
def fiveL (i:Nat):Int:=[1,2,4,8,16].getD i 0
theorem five_has (d:Int):(∃ i,i < 5∧fiveL i=d)↔Five d:=by
 unfold Five fiveL
 constructor
 ·rintro⟨i,hi,rfl⟩
  match i,hi with
  | 0,_=>simp
  | 1,_=>simp
  | 2,_=>simp
  | 3,_=>simp
  | 4,_=>simp
  | k+5,hk=>omega
 ·rintro (rfl | rfl | rfl | rfl | rfl)
  ·exact⟨0,by omega,rfl⟩
  ·exact⟨1,by omega,rfl⟩
  ·exact⟨2,by omega,rfl⟩
  ·exact⟨3,by omega,rfl⟩
  ·exact⟨4,by omega,rfl⟩
theorem isDepth_any (d:Int) (w:World):Calls Tryd.prog 90 #[.int .i64 d] w fun e w'=>e=.returned (.bool (decide (Five d)))∧Below w.heap.size w w':=by
 have h:Hid (∀ W:World,W=w.alloc (.cells #[.int .i64 1,.int .i64 2,.int .i64 4,.int .i64 8,.int .i64 16] 3)→Calls Tryd.prog 104 #[.slice (some ⟨w.heap.size,0,none⟩) 5 5,.int .i64 d] W fun e w'=>e=.returned (.bool (decide (Five d)))∧w'=W):=by
  rintro W rfl
  have hc:Came (w.alloc (.cells #[.int .i64 1,.int .i64 2,.int .i64 4,.int .i64 8,.int .i64 16] 3)) (some ⟨w.heap.size,0,none⟩) 5 fiveL:=by
   refine .inr ⟨w.heap.size,0,rfl,by simp,fun j hj=>?_⟩
   rw[Nat.zero_add,cell_of_block (heap_alloc_new w _) j]
   match j,hj with
   | 0,_=>rfl
   | 1,_=>rfl
   | 2,_=>rfl
   | 3,_=>rfl
   | 4,_=>rfl
   | k+5,hk=>omega
  refine (contains_any (some ⟨w.heap.size,0,none⟩) 5 5 fiveL d _ hc (by omega)).mono ?_
  rintro e w' ⟨rfl,rfl⟩
  refine⟨?_,rfl⟩
  rw[decide_eq_decide.mpr (five_has d)]
 have hB:=hid_of (bstart w (.cells #[.int .i64 1,.int .i64 2,.int .i64 4,.int .i64 8,.int .i64 16] 3))
 generalize decide (Five d)=b at h ⊢
 go_enter Tryd.func90,Tryd.ntmps90
 go_wp2_with fail
 refine (h.out _ rfl).mono ?_
 rintro e w1 ⟨rfl,rfl⟩
 go_wp2_with fail
 go_ret
 exact⟨rfl,hB.out⟩
theorem isSide_any (n:Int) (w:World):Calls Tryd.prog 38 #[.int .i64 n] w fun e w'=>e=.returned (.bool (decide (SideR n)))∧w'=w:=by
 by_cases h1:1≤n
 ·have d1:decide (1≤n)=true:=decide_eq_true h1
  have hh:decide (SideR n)=decide (n≤24):=decide_eq_decide.mpr ⟨fun h=>h.2,fun h=>⟨h1,h⟩⟩
  rw[hh]
  clear h1 hh
  generalize hb:decide (n≤24)=b
  go_enter Tryd.func38,Tryd.ntmps38
  go_wp2_with fail
  go_ret
  exact⟨rfl,rfl⟩
 ·have d1:decide (1≤n)=false:=decide_eq_false h1
  rw[decide_eq_false (fun h:SideR n=>h1 h.1)]
  clear h1
  go_enter Tryd.func38,Tryd.ntmps38
  go_wp2_with fail
  go_ret
  exact⟨rfl,rfl⟩
theorem implChannels (c:Int) (w:World):Calls Tryd.prog 80 #[.int .i64 c] w fun e w'=>e=.returned (.int .i64 (chan c))∧w'=w:=by
 unfold chan
 by_cases h0:c=0
 ·subst h0
  go_enter Tryd.func80,Tryd.ntmps80
  go_wp2_with fail
  go_ret
  exact⟨rfl,rfl⟩
 by_cases h3:c=3
 ·subst h3
  go_enter Tryd.func80,Tryd.ntmps80
  go_wp2_with fail
  go_ret
  exact⟨rfl,rfl⟩
 by_cases h2:c=2
 ·subst h2
  go_enter Tryd.func80,Tryd.ntmps80
  go_wp2_with fail
  go_ret
  exact⟨rfl,rfl⟩
 by_cases h4:c=4
 ·subst h4
  go_enter Tryd.func80,Tryd.ntmps80
  go_wp2_with fail
  go_ret
  exact⟨rfl,rfl⟩
 by_cases h6:c=6
 ·subst h6
  go_enter Tryd.func80,Tryd.ntmps80
  go_wp2_with fail
  go_ret
  exact⟨rfl,rfl⟩
 rw[if_neg (by omega),if_neg h2,if_neg h4,if_neg h6]
 have b0:=beq_no1 h0
 have b3:=beq_no1 h3
 have b2:=beq_no1 h2
 have b4:=beq_no1 h4
 have b6:=beq_no1 h6
 go_enter Tryd.func80,Tryd.ntmps80
 go_wp2_with fail
 go_ret
 exact⟨rfl,rfl⟩
theorem implDepth (c d:Int) (w:World):Calls Tryd.prog 48 #[.int .i64 c,.int .i64 d] w fun e w'=>e=.returned (.bool (decide (DepthR c d)))∧Below w.heap.size w w':=by
 by_cases h0:c=0
 ·subst h0
  have h:=isDepth_any d
  rw[show decide (Five d)=decide (DepthR 0 d) from decide_eq_decide.mpr ⟨fun h=>.inl ⟨rfl,h⟩,depth_five⟩] at h
  generalize decide (DepthR 0 d)=b at h ⊢
  go_enter Tryd.func48,Tryd.ntmps48
  go_wp2_with fail
  refine (h _).mono ?_
  rintro e w1 ⟨rfl,hB⟩
  have HB:=hid_of hB
  clear hB
  go_wp2_with fail
  go_ret
  exact⟨rfl,HB.out⟩
 by_cases h3:c=3
 ·subst h3
  by_cases h5:Five d
  ·have h:=isDepth_any d
   rw[decide_eq_true h5] at h
   have hh:decide (DepthR 3 d)=(d != 16):=by
    by_cases e:d=16
    ·subst e; decide
    ·rw[decide_eq_true (show DepthR 3 d from .inr (.inl ⟨rfl,h5,e⟩))]
     simp[e]
   rw[hh]
   clear h5 hh
   generalize hb:(d != 16)=b
   go_enter Tryd.func48,Tryd.ntmps48
   go_wp2_with fail
   refine (h _).mono ?_
   rintro e w1 ⟨rfl,hB⟩
   have HB:=hid_of hB
   clear hB
   go_wp2_with fail
   go_ret
   exact⟨rfl,HB.out⟩
  ·have h:=isDepth_any d
   rw[decide_eq_false h5] at h
   rw[decide_eq_false (fun h:DepthR 3 d=>h5 (depth_five h))]
   clear h5
   go_enter Tryd.func48,Tryd.ntmps48
   go_wp2_with fail
   refine (h _).mono ?_
   rintro e w1 ⟨rfl,hB⟩
   have HB:=hid_of hB
   clear hB
   go_wp2_with fail
   go_ret
   exact⟨rfl,HB.out⟩
 have hd:d=8∨d=16∨(¬ d=8∧¬ d=16):=by omega
 have hc:c=2∨c=4∨c=6∨(¬ c=2∧¬ c=4∧¬ c=6):=by omega
 rcases hc with rfl | rfl | rfl | ⟨h2,h4,h6⟩
 all_goals
  rcases hd with rfl | rfl | ⟨h8,h16⟩
 all_goals
  first
   | (rw [decide_eq_true (show DepthR _ _ by unfold DepthR Five; omega)])
   | (rw [decide_eq_false (show ¬ DepthR _ _ by unfold DepthR Five; omega)])
  try (have e0:=beq_no1 h0; have e3:=beq_no1 h3; have e2:=beq_no1 h2; have e4:=beq_no1 h4; have e6:=beq_no1 h6; clear h0 h3 h2 h4 h6)
  try (have g8:=beq_no1 h8; have g16:=beq_no1 h16; clear h8 h16)
  go_enter Tryd.func48,Tryd.ntmps48
  go_wp2_with fail
  go_ret
  exact⟨rfl,Below.refl _ _⟩
end
end Go.Proofs.YtcbbcadfolgioaaDoor
