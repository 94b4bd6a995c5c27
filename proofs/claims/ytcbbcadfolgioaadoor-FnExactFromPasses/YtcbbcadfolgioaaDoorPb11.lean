/-
  Texts of the proof, put together.
-/
import Derived.Test.YtcbbcadfolgioaaDoorPb10
namespace Go.Proofs.YtcbbcadfolgioaaDoor
section
open Go.RowKit RastMath PassMath
theorem specFrom_any (W H:Int) (a:Option Addr) (m c:Nat) (R:Nat→Ras) (w:World) (hC:RCame w a m R) (hn:∀ j,j < m→(R j).n≤1048576):
  Calls Tryd.prog 27 #[.int .i64 W,.int .i64 H,.slice a m c] w (FromPost W H m R w):=by
 by_cases hW:SideR W
 ·by_cases hH:SideR H
  ·by_cases hm:m=7
   ·subst hm
    by_cases hD:DepthR (R 0).x2 (R 0).x3
    ·have c1:=chan_pos hD
     have c2:=chan_range (R 0).x2
     unfold SideR at hW hH
     obtain⟨x,rfl⟩:∃ x:Nat,W=(x:Int):=⟨W.toNat,by omega⟩
     obtain⟨y,rfl⟩:∃ y:Nat,H=(y:Int):=⟨H.toNat,by omega⟩
     obtain⟨z,hz⟩:∃ z:Nat,chan (R 0).x2=(z:Int):=⟨(chan (R 0).x2).toNat,by omega⟩
     exact specFrom_main x y z a c R w hC (by omega) (by omega) hD hz (by omega) hn
    ·exact (specFrom_depth W H a c R w hC hW hH hD).mono fun _ _ ⟨q1,q2⟩=>⟨.inr ⟨fun h=>hD h.first.2.2.2,q1⟩,q2⟩
   ·exact (specFrom_many W H a m c w hW hH hm).mono fun _ _ ⟨q1,q2⟩=>⟨.inr ⟨fun h=>hm h.first.2.2.1,q1⟩,q2⟩
  ·exact (specFrom_side2 W H _ w hW hH).mono fun _ _ ⟨q1,q2⟩=>⟨.inr ⟨fun h=>hH h.first.2.1,q1⟩,q2⟩
 ·exact (specFrom_side W H _ w hW).mono fun _ _ ⟨q1,q2⟩=>⟨.inr ⟨fun h=>hW h.first.1,q1⟩,q2⟩
theorem join_small {W H:Int} {m:Nat} {R:Nat→Ras} (h:FromR W H m R):(joinR W H R).n≤2304:=by
 obtain⟨w,h,n,_,_,_,hW,hH,hN,hn,_⟩:=ras_parts h.2.1
 rw[hn]
 exact Nat.le_trans (Nat.mul_le_mul (Nat.mul_le_mul hW.2 hH.2) hN.2) (by omega)
end
section
open Go.RowKit RastMath PassMath
def FromAnswer:Prop:=∀ (W H:Int) (a:Option Addr) (m c:Nat) (R:Nat→Ras) (w:World),RCame w a m R→m≤1048576→(∀ j,j < m→(R j).n≤1048576)→(Lit.int .i64 W).wf=true→(Lit.int .i64 H).wf=true→GridG w→
 (FromR W H m R→Calls Tryd.prog 12 #[.int .i64 W,.int .i64 H,.slice a m c] w fun e w'=>∃ a' c',e=.returned (.tuple #[rasA (joinR W H R) a' c',.bool true])∧SL w' w.heap.size a' (joinR W H R).n c' (joinR W H R).f∧(joinR W H R).n≤c'∧c'≤maxLen∧Below w.heap.size w w')∧
 (¬ FromR W H m R→Calls Tryd.prog 12 #[.int .i64 W,.int .i64 H,.slice a m c] w fun e w'=>∃ a' c',e=.returned (.tuple #[.agg #[.int .i64 0,.int .i64 0,.int .i64 0,.int .i64 0,.slice a' 0 c'],.bool false])∧Below w.heap.size w w')
end
section
open Go.RowKit Go.Joins
theorem markK_fits {R:Nat→Ras} {m:Nat} (h:FitsR R m 1048576):∀ j,j≤m→0≤markK R 1 j∧markK R 1 j≤1000000000:=by
 have e:∀ j:Nat,markK R 1 j=1+4 * (j:Int)+(1048576 - (m:Int) - leftR R (1048576 - m) j):=by
  intro j
  induction j with
  | zero=>simp [markK,leftR]
  | succ j ih=>
   unfold markK leftR
   rw[ih]
   omega
 intro j hj
 have h1:=h.each.1
 have h2:=leftR_down R (1048576 - m) (Nat.zero_le j)
 have h3:=leftR_down R (1048576 - m) hj
 have h4:0≤leftR R (1048576 - m) m:=h
 have h5:leftR R (1048576 - m) 0=1048576 - m:=rfl
 rw[e j]
 omega
set_option maxRecDepth 100000 in
set_option maxHeartbeats 6400000 in
theorem FnExactFromPasses_at (W H:Int) (a:Option Addr) (m c:Nat) (R:Nat→Ras) (b:Bool) (x0 x1 x2 x3:Int) (n:Nat) (f:Nat→Int) (w:World) (hC:RCame w a m R) (hfit:FitsR R m 1048576) (hml:m≤maxLen) (hn:n≤1048576)
  (hspec:∀ (V:World) (g:Nat),RCame V (some ⟨g,0,none⟩) m R→Calls Tryd.prog 27 #[.int .i64 W,.int .i64 H,.slice (some ⟨g,0,none⟩) m m] V fun e w'=>∃ a' c',e=.returned (.tuple #[.agg #[.int .i64 x0,.int .i64 x1,.int .i64 x2,.int .i64 x3,.slice a' n c'],.bool b])∧Came w' a' n f∧Below V.heap.size V w')
  (hGG:GridG w) (himpl:∀ (V:World) (g:Nat),GridG V→RCame V (some ⟨g,0,none⟩) m R→Calls Tryd.prog 12 #[.int .i64 W,.int .i64 H,.slice (some ⟨g,0,none⟩) m m] V fun e w'=>∃ a' c',e=.returned (.tuple #[.agg #[.int .i64 x0,.int .i64 x1,.int .i64 x2,.int .i64 x3,.slice a' n c'],.bool b])∧SL w' V.heap.size a' n c' f∧Below V.heap.size V w'):
  Calls Tryd.prog 6 #[.int .i64 W,.int .i64 H,.slice a m c] w fun e w'=>e=.returned (.bool true)∧Below w.heap.size w w':=by
 have HC:=hid_of hC
 have HSP:=hid_of hspec
 have HIM:=hid_of himpl
 have HGG:=hid_of hGG
 have hm:m≤1048576:=by have:=hfit.each.1; omega
 have HRN:Hid (∀ j,j < m→(R j).n≤1048576):=fun j hj=>by have:=(hfit.each.2 j hj).1; omega
 have HKK:=hid_of (markK_fits hfit)
 have hsz:=fun V h=>szRasterS_any a m c R 1048576 V h (by omega) (by omega) hml
 have hto:=fun (V:World) (h:RCame V a m R)=>toRasterS_any a m c R V h hm HRN.out
 have hbb:(b != b)=false:=bne_self_eq_false b
 have HFIT:=hid_of hfit
 clear hC hspec himpl hfit hGG
 go_enter Tryd.func6,Tryd.ntmps6
 go_wp2_with fail
 refine (hsz _ HC.out).mono ?_
 rintro e w1 ⟨⟨z,rfl,hz⟩,hB1⟩
 have hz0:0≤z:=by
  rcases hz with q | q
  ·exact q.1
  ·exact absurd HFIT.out q.2
 have d0:decide (z < 0)=false:=decide_eq_false (by omega)
 have HB1:=hid_of hB1
 clear hB1 hz hsz
 go_wp2_with fail
 refine (hto w1 (HC.out.called HB1.out)).mono ?_
 rintro e w2 ⟨rfl,hO2,hB2⟩
 have HP2:=hid_of hO2.came
 have HB2:=hid_of (bnext HB1.out hB2)
 generalize w1.heap.size=g2 at HP2 ⊢
 clear hO2 hB2 HB1
 go_wp2_with fail
 refine (HSP.out w2 g2 HP2.out).mono ?_
 rintro e wA ⟨a0,c0,rfl,hA0,hB3⟩
 have HA0:=hid_of hA0
 have HB3:=hid_of (bnext HB2.out hB3)
 clear hA0 hB3 HB2 HP2
 go_wp2_with fail
 have HX:Hid ((wA.alloc (.cells #[.int .i64 x0,.int .i64 x1,.int .i64 x2,.int .i64 x3,.slice a0 n c0] 26)).heap[wA.heap.size]?=some (.cells #[.int .i64 x0,.int .i64 x1,.int .i64 x2,.int .i64 x3,.slice a0 n c0] 26 (0,0))):=heap_alloc_new wA _
 have HBX:=hid_of (bal HB3.out (.cells #[.int .i64 x0,.int .i64 x1,.int .i64 x2,.int .i64 x3,.slice a0 n c0] 26))
 have HAX:=hid_of (HA0.out.called (bstart wA (.cells #[.int .i64 x0,.int .i64 x1,.int .i64 x2,.int .i64 x3,.slice a0 n c0] 26)))
 generalize wA.alloc (.cells #[.int .i64 x0,.int .i64 x1,.int .i64 x2,.int .i64 x3,.slice a0 n c0] 26)=W0 at HX HBX HAX ⊢
 generalize wA.heap.size=X at HX ⊢
 clear HA0 HB3
 refine (hto W0 (HC.out.called HBX.out)).mono ?_
 rintro e w4 ⟨rfl,hO4,hB4⟩
 have HO4:=hid_of hO4.high
 have HWS:=hid_of hB4.size
 have HL4:=hid_of hB4
 have HB4:=hid_of (bnext HBX.out hB4)
 have HXL:=hid_of (block_lt HX.out)
 clear hO4 hB4
 go_wp2_with fail
 refine (HIM.out w4 W0.heap.size (HGG.out.called HB4.out) HO4.out.own.came).mono ?_
 rintro e w6 ⟨a1,c1,rfl,hG6,hB6⟩
 have HG6:=hid_of hG6
 have HO6:=hid_of (HO4.out.called hB6)
 have HL6:=hid_of (bnext HL4.out hB6)
 have HS6:=hid_of hB6.size
 have HB6:=hid_of (bnext HB4.out hB6)
 clear hG6 hB6 HB4 HL4
 have lx6:X < w6.heap.size:=Nat.lt_of_lt_of_le HXL.out HL6.out.size
 have HX6:=hid_of ((Below.heap_alloc w6 (.cells #[.int .i64 x0,.int .i64 x1,.int .i64 x2,.int .i64 x3,.slice a1 n c1] 26) _ lx6).trans ((HL6.out.block _ HXL.out).trans HX.out))
 have k0:(w6.alloc (.cells #[.int .i64 x0,.int .i64 x1,.int .i64 x2,.int .i64 x3,.slice a1 n c1] 26)).cell? ⟨X,0,none⟩=some (.int .i64 x0):=(cell_of_block HX6.out 0).trans rfl
 have k1:(w6.alloc (.cells #[.int .i64 x0,.int .i64 x1,.int .i64 x2,.int .i64 x3,.slice a1 n c1] 26)).cell? ⟨X,1,none⟩=some (.int .i64 x1):=(cell_of_block HX6.out 1).trans rfl
 have k2:(w6.alloc (.cells #[.int .i64 x0,.int .i64 x1,.int .i64 x2,.int .i64 x3,.slice a1 n c1] 26)).cell? ⟨X,2,none⟩=some (.int .i64 x2):=(cell_of_block HX6.out 2).trans rfl
 have k3:(w6.alloc (.cells #[.int .i64 x0,.int .i64 x1,.int .i64 x2,.int .i64 x3,.slice a1 n c1] 26)).cell? ⟨X,3,none⟩=some (.int .i64 x3):=(cell_of_block HX6.out 3).trans rfl
 have k4:(w6.alloc (.cells #[.int .i64 x0,.int .i64 x1,.int .i64 x2,.int .i64 x3,.slice a1 n c1] 26)).cell? ⟨X,4,none⟩=some (.slice a0 n c0):=(cell_of_block HX6.out 4).trans rfl
 go_wp2_with fail
 have HY:Hid ((w6.alloc (.cells #[.int .i64 x0,.int .i64 x1,.int .i64 x2,.int .i64 x3,.slice a1 n c1] 26)).heap[w6.heap.size]?=some (.cells #[.int .i64 x0,.int .i64 x1,.int .i64 x2,.int .i64 x3,.slice a1 n c1] 26 (0,0))):=heap_alloc_new w6 _
 have HBY:=hid_of (bal HB6.out (.cells #[.int .i64 x0,.int .i64 x1,.int .i64 x2,.int .i64 x3,.slice a1 n c1] 26))
 have HLY:=hid_of (bal HL6.out (.cells #[.int .i64 x0,.int .i64 x1,.int .i64 x2,.int .i64 x3,.slice a1 n c1] 26))
 have HGY:=hid_of (HG6.out.called (bstart w6 (.cells #[.int .i64 x0,.int .i64 x1,.int .i64 x2,.int .i64 x3,.slice a1 n c1] 26)))
 have HOY:=hid_of (HO6.out.called (bstart w6 (.cells #[.int .i64 x0,.int .i64 x1,.int .i64 x2,.int .i64 x3,.slice a1 n c1] 26)))
 have HYS:Hid (w4.heap.size≤w6.heap.size):=HS6.out
 have HGL0:Hid (∀ g,a1=some ⟨g,0,none⟩→0 < n→g < w6.heap.size):=fun g e h0=>by
  rcases HG6.out with q | ⟨g',e',q⟩
  ·omega
  ·rw[e'] at e
   cases e
   exact q.lt
 clear HX6 k0 k1 k2 k3 k4
 generalize w6.alloc (.cells #[.int .i64 x0,.int .i64 x1,.int .i64 x2,.int .i64 x3,.slice a1 n c1] 26)=W6 at HY HBY HLY HGY HOY ⊢
 clear lx6
 generalize w6.heap.size=Y at HY HYS HGL0 ⊢
 have HGL:Hid (∀ g,a1=some ⟨g,0,none⟩→0 < n→g < Y):=HGL0
 clear HG6 HO6 HL6 HB6 HS6
 refine (eqRaster_same x0 x1 x2 x3 a1 a0 n c1 c0 f W6 HGY.out.came (HAX.out.called HLY.out) hn).mono ?_
 rintro e w7 ⟨rfl,hB7⟩
 have HY7:=hid_of ((hB7.block _ (block_lt HY.out)).trans HY.out)
 have HL7:=hid_of (bnext HLY.out hB7)
 have HG7:=hid_of (HGY.out.called hB7)
 have HO7:=hid_of (HOY.out.called hB7)
 have HB7:=hid_of (bnext HBY.out hB7)
 clear hB7 HY HLY HGY HOY HBY
 go_wp2_with fail
 refine (hto w7 (HC.out.called HB7.out)).mono ?_
 rintro e w8 ⟨rfl,hO8,hB8⟩
 have HP8:=hid_of hO8.came
 have HY8:=hid_of ((hB8.block _ (block_lt HY7.out)).trans HY7.out)
 have HL8:=hid_of (bnext HL7.out hB8)
 have HG8:=hid_of (HG7.out.called hB8)
 have HO8:=hid_of (HO7.out.called hB8)
 have HB8:=hid_of (bnext HB7.out hB8)
 generalize w7.heap.size=g8 at HP8 ⊢
 clear hO8 hB8 HY7 HL7 HG7 HO7 HB7
 go_wp2_with fail
 refine (eqRasterS_same (some ⟨W0.heap.size,0,none⟩) (some ⟨g8,0,none⟩) m m m R w8 HO8.out.own.came HP8.out hm HRN.out).mono ?_
 rintro e w9 ⟨rfl,hB9⟩
 have HY9:=hid_of ((hB9.block _ (block_lt HY8.out)).trans HY8.out)
 have HL9:=hid_of (bnext HL8.out hB9)
 have HG9:=hid_of (HG8.out.called hB9)
 have HO9:=hid_of (HO8.out.called hB9)
 have HB9:=hid_of (bnext HB8.out hB9)
 clear hB9 HY8 HL8 HG8 HO8 HB8 HP8
 go_wp2_with fail
 refine (markRasterS_high W0.heap.size W0.heap.size m m w4.heap.size R 1 w9 HO9.out hm HRN.out HKK.out).mono ?_
 rintro e w10 ⟨rfl,_,hB10,hH10⟩
 have HY10:=hid_of ((hH10 _ HYS.out (block_lt HY9.out)).trans HY9.out)
 have HL10:=hid_of (HL9.out.trans hB10)
 have HG10:Hid (SL w10 w4.heap.size a1 n c1 f):=by
  rcases HG9.out with q | ⟨g,e,q⟩
  ·exact .inl q
  ·exact .inr ⟨g,e,q.keep (hH10 g q.base_le q.lt)⟩
 have HB10:Hid (Below w.heap.size w w10):=HB9.out.trans (hB10.mono HBX.out.size)
 have hK0:=HKK.out m (Nat.le_refl _)
 have dM:decide (markK R 1 m < 0)=false:=decide_eq_false (by omega)
 generalize markK R 1 m=MK at hK0 dM ⊢
 clear hB10 hH10 HY9 HL9 HG9 HO9 HB9
 have HX10:=hid_of ((HL10.out.block _ HXL.out).trans HX.out)
 have k0:w10.cell? ⟨X,0,none⟩=some (.int .i64 x0):=(cell_of_block HX10.out 0).trans rfl
 have k1:w10.cell? ⟨X,1,none⟩=some (.int .i64 x1):=(cell_of_block HX10.out 1).trans rfl
 have k2:w10.cell? ⟨X,2,none⟩=some (.int .i64 x2):=(cell_of_block HX10.out 2).trans rfl
 have k3:w10.cell? ⟨X,3,none⟩=some (.int .i64 x3):=(cell_of_block HX10.out 3).trans rfl
 have k4:w10.cell? ⟨X,4,none⟩=some (.slice a0 n c0):=(cell_of_block HX10.out 4).trans rfl
 have j0:w10.cell? ⟨Y,0,none⟩=some (.int .i64 x0):=(cell_of_block HY10.out 0).trans rfl
 have j1:w10.cell? ⟨Y,1,none⟩=some (.int .i64 x1):=(cell_of_block HY10.out 1).trans rfl
 have j2:w10.cell? ⟨Y,2,none⟩=some (.int .i64 x2):=(cell_of_block HY10.out 2).trans rfl
 have j3:w10.cell? ⟨Y,3,none⟩=some (.int .i64 x3):=(cell_of_block HY10.out 3).trans rfl
 have j4:w10.cell? ⟨Y,4,none⟩=some (.slice a1 n c1):=(cell_of_block HY10.out 4).trans rfl
 have lx:=block_lt HX10.out
 have ly:=block_lt HY10.out
 go_wp2_with fail
 refine (eqRaster_same x0 x1 x2 x3 a1 a0 n c1 c0 f w10 HG10.out.came (HAX.out.called HL10.out) hn).mono ?_
 rintro e w11 ⟨rfl,hB11⟩
 have HY11:=hid_of ((hB11.block _ (block_lt HY10.out)).trans HY10.out)
 have HL11:=hid_of (bnext HL10.out hB11)
 have HG11:=hid_of (HG10.out.called hB11)
 have HB11:=hid_of (bnext HB10.out hB11)
 clear hB11 HY10 HL10 HG10 HB10 HX10 k0 k1 k2 k3 k4 j0 j1 j2 j3 j4 lx ly
 have j0:w11.cell? ⟨Y,0,none⟩=some (.int .i64 x0):=(cell_of_block HY11.out 0).trans rfl
 have j1:w11.cell? ⟨Y,1,none⟩=some (.int .i64 x1):=(cell_of_block HY11.out 1).trans rfl
 have j2:w11.cell? ⟨Y,2,none⟩=some (.int .i64 x2):=(cell_of_block HY11.out 2).trans rfl
 have j3:w11.cell? ⟨Y,3,none⟩=some (.int .i64 x3):=(cell_of_block HY11.out 3).trans rfl
 have j4:w11.cell? ⟨Y,4,none⟩=some (.slice a1 n c1):=(cell_of_block HY11.out 4).trans rfl
 have ly:=block_lt HY11.out
 go_wp2_with fail
 refine (markRaster_sl x0 x1 x2 x3 w4.heap.size a1 n c1 f 1 w11 HG11.out hn (by omega) (by omega)).mono ?_
 rintro e w12 ⟨rfl,hS12,row,hrow,hg12⟩
 have HG12:=hid_of hS12
 have HY12:=hid_of ((hg12.block _ (block_lt HY11.out) (fun e=>by obtain⟨q1,q2,_⟩:=hrow _ e.symm; have:=HGL.out _ q2 q1; omega)).trans HY11.out)
 have HL12:Hid (Below W0.heap.size W0 w12):=⟨hg12.os.trans HL11.out.os,hg12.tape.trans HL11.out.tape,hg12.output.trans HL11.out.output,Nat.le_trans HL11.out.size hg12.size,fun k hk=>(hg12.block k (Nat.lt_of_lt_of_le hk HL11.out.size) (fun e=>by have:=(hrow k e.symm).2.2; have:=HWS.out; omega)).trans (HL11.out.block k hk)⟩
 have HB12:Hid (Below w.heap.size w w12):=HBX.out.trans (HL12.out.mono HBX.out.size)
 clear hS12 hrow hg12 HY11 HL11 HG11 HB11 j0 j1 j2 j3 j4 ly
 have hheld:=fun (V:World) (h:Came V a1 n (fun j=>(1:Int)+j))=>heldRaster_same x0 x1 x2 x3 a1 n c1 1 V h hn (by omega) (by omega)
 have dn:decide ((1:Int)+(n:Int) < 0)=false:=decide_eq_false (by omega)
 have bn:((1:Int)+(n:Int) != (1:Int)+(n:Int))=false:=by simp
 have j0:w12.cell? ⟨Y,0,none⟩=some (.int .i64 x0):=(cell_of_block HY12.out 0).trans rfl
 have j1:w12.cell? ⟨Y,1,none⟩=some (.int .i64 x1):=(cell_of_block HY12.out 1).trans rfl
 have j2:w12.cell? ⟨Y,2,none⟩=some (.int .i64 x2):=(cell_of_block HY12.out 2).trans rfl
 have j3:w12.cell? ⟨Y,3,none⟩=some (.int .i64 x3):=(cell_of_block HY12.out 3).trans rfl
 have j4:w12.cell? ⟨Y,4,none⟩=some (.slice a1 n c1):=(cell_of_block HY12.out 4).trans rfl
 have ly:=block_lt HY12.out
 go_wp2_with fail
 refine (hheld w12 HG12.out.came).mono ?_
 rintro e w13 ⟨rfl,hB13⟩
 have HY13:=hid_of ((hB13.block _ (block_lt HY12.out)).trans HY12.out)
 have HL13:=hid_of (bnext HL12.out hB13)
 have HG13:=hid_of (HG12.out.called hB13)
 have HB13:=hid_of (bnext HB12.out hB13)
 clear hB13 HY12 HL12 HG12 HB12 j0 j1 j2 j3 j4 ly
 go_wp2_with fail
 refine (hto w13 (HC.out.called HB13.out)).mono ?_
 rintro e w14 ⟨rfl,hO14,hB14⟩
 have HP14:=hid_of hO14.came
 have HY14:=hid_of ((hB14.block _ (block_lt HY13.out)).trans HY13.out)
 have HL14:=hid_of (bnext HL13.out hB14)
 have HG14:=hid_of (HG13.out.called hB14)
 have HB14:=hid_of (bnext HB13.out hB14)
 generalize w13.heap.size=g14 at HP14 ⊢
 clear hO14 hB14 HY13 HL13 HG13 HB13
 go_wp2_with fail
 refine (HIM.out w14 g14 (HGG.out.called HB14.out) HP14.out).mono ?_
 rintro e w15 ⟨a2,c2,rfl,hG15,hB15⟩
 have HQ15:=hid_of hG15.came
 have HY15:=hid_of ((hB15.block _ (block_lt HY14.out)).trans HY14.out)
 have HL15:=hid_of (bnext HL14.out hB15)
 have HG15:=hid_of (HG14.out.called hB15)
 have HB15:=hid_of (bnext HB14.out hB15)
 clear hG15 hB15 HY14 HL14 HG14 HB14 HP14
 have lx15:X < w15.heap.size:=Nat.lt_of_lt_of_le HXL.out HL15.out.size
 have HX15:=hid_of ((Below.heap_alloc w15 (.cells #[.int .i64 x0,.int .i64 x1,.int .i64 x2,.int .i64 x3,.slice a2 n c2] 26) _ lx15).trans ((HL15.out.block _ HXL.out).trans HX.out))
 have k0:(w15.alloc (.cells #[.int .i64 x0,.int .i64 x1,.int .i64 x2,.int .i64 x3,.slice a2 n c2] 26)).cell? ⟨X,0,none⟩=some (.int .i64 x0):=(cell_of_block HX15.out 0).trans rfl
 have k1:(w15.alloc (.cells #[.int .i64 x0,.int .i64 x1,.int .i64 x2,.int .i64 x3,.slice a2 n c2] 26)).cell? ⟨X,1,none⟩=some (.int .i64 x1):=(cell_of_block HX15.out 1).trans rfl
 have k2:(w15.alloc (.cells #[.int .i64 x0,.int .i64 x1,.int .i64 x2,.int .i64 x3,.slice a2 n c2] 26)).cell? ⟨X,2,none⟩=some (.int .i64 x2):=(cell_of_block HX15.out 2).trans rfl
 have k3:(w15.alloc (.cells #[.int .i64 x0,.int .i64 x1,.int .i64 x2,.int .i64 x3,.slice a2 n c2] 26)).cell? ⟨X,3,none⟩=some (.int .i64 x3):=(cell_of_block HX15.out 3).trans rfl
 have k4:(w15.alloc (.cells #[.int .i64 x0,.int .i64 x1,.int .i64 x2,.int .i64 x3,.slice a2 n c2] 26)).cell? ⟨X,4,none⟩=some (.slice a0 n c0):=(cell_of_block HX15.out 4).trans rfl
 go_wp2_with fail
 have HZ:Hid ((w15.alloc (.cells #[.int .i64 x0,.int .i64 x1,.int .i64 x2,.int .i64 x3,.slice a2 n c2] 26)).heap[w15.heap.size]?=some (.cells #[.int .i64 x0,.int .i64 x1,.int .i64 x2,.int .i64 x3,.slice a2 n c2] 26 (0,0))):=heap_alloc_new w15 _
 have HBZ:=hid_of (bstart w15 (.cells #[.int .i64 x0,.int .i64 x1,.int .i64 x2,.int .i64 x3,.slice a2 n c2] 26))
 clear HX15 k0 k1 k2 k3 k4 lx15
 generalize w15.alloc (.cells #[.int .i64 x0,.int .i64 x1,.int .i64 x2,.int .i64 x3,.slice a2 n c2] 26)=W15 at HZ HBZ ⊢
 generalize w15.heap.size=Z at HZ ⊢
 have HY16:=hid_of ((HBZ.out.block _ (block_lt HY15.out)).trans HY15.out)
 have HL16:=hid_of (bnext HL15.out HBZ.out)
 have HG16:=hid_of (HG15.out.called HBZ.out)
 have HB16:=hid_of (bnext HB15.out HBZ.out)
 have HQ16:=hid_of (HQ15.out.called HBZ.out)
 clear HY15 HL15 HG15 HB15 HQ15 HBZ
 refine (eqRaster_same x0 x1 x2 x3 a2 a0 n c2 c0 f W15 HQ16.out (HAX.out.called HL16.out) hn).mono ?_
 rintro e w17 ⟨rfl,hB17⟩
 have HY17:=hid_of ((hB17.block _ (block_lt HY16.out)).trans HY16.out)
 have HG17:=hid_of (HG16.out.called hB17)
 have HB17:=hid_of (bnext HB16.out hB17)
 clear hB17 HY16 HL16 HG16 HB16 HQ16
 have j0:w17.cell? ⟨Y,0,none⟩=some (.int .i64 x0):=(cell_of_block HY17.out 0).trans rfl
 have j1:w17.cell? ⟨Y,1,none⟩=some (.int .i64 x1):=(cell_of_block HY17.out 1).trans rfl
 have j2:w17.cell? ⟨Y,2,none⟩=some (.int .i64 x2):=(cell_of_block HY17.out 2).trans rfl
 have j3:w17.cell? ⟨Y,3,none⟩=some (.int .i64 x3):=(cell_of_block HY17.out 3).trans rfl
 have j4:w17.cell? ⟨Y,4,none⟩=some (.slice a1 n c1):=(cell_of_block HY17.out 4).trans rfl
 have ly:=block_lt HY17.out
 go_wp2_with fail
 refine (hheld w17 HG17.out.came).mono ?_
 rintro e w18 ⟨rfl,hB18⟩
 have HB18:=hid_of (bnext HB17.out hB18)
 clear hB18
 go_wp2_with fail
 go_ret
 exact⟨rfl,HB18.out⟩
theorem FnExactFromPasses_big (W H:Int) (a:Option Addr) (m c:Nat) (R:Nat→Ras) (w:World) (hC:RCame w a m R) (hfit:¬ FitsR R m 1048576) (hml:m≤maxLen):
  Calls Tryd.prog 6 #[.int .i64 W,.int .i64 H,.slice a m c] w fun e w'=>e=.returned (.bool true)∧Below w.heap.size w w':=by
 have hsz:=szRasterS_any a m c R 1048576 w hC (by omega) (by omega) hml
 have HFIT:=hid_of hfit
 clear hC hfit
 go_enter Tryd.func6,Tryd.ntmps6
 go_wp2_with fail
 refine hsz.mono ?_
 rintro e w1 ⟨⟨z,rfl,hz⟩,hB1⟩
 have hz0:z < 0:=by
  rcases hz with q | q
  ·exact absurd q.2 HFIT.out
  ·exact q.1
 have d0:decide (z < 0)=true:=decide_eq_true hz0
 have HB1:=hid_of hB1
 clear hB1 hz hsz
 go_wp2_with fail
 go_ret
 exact⟨rfl,HB1.out⟩
theorem FnExactFromPasses_over (hA:FromAnswer) (W H:Int) (a:Option Addr) (m c:Nat) (R:Nat→Ras) (w:World) (hW:(Lit.int .i64 W).wf=true) (hH:(Lit.int .i64 H).wf=true) (hC:RCame w a m R) (hml:m≤maxLen) (hG:GridG w):
  Calls Tryd.prog 6 #[.int .i64 W,.int .i64 H,.slice a m c] w fun e w'=>e=.returned (.bool true)∧Below w.heap.size w w':=by
 by_cases hfit:FitsR R m 1048576
 ·have hm:m≤1048576:=by have:=hfit.each.1; omega
  have hn:∀ j,j < m→(R j).n≤1048576:=fun j hj=>by have:=(hfit.each.2 j hj).1; omega
  by_cases hF:FromR W H m R
  ·refine FnExactFromPasses_at W H a m c R true (joinR W H R).x0 (joinR W H R).x1 (joinR W H R).x2 (joinR W H R).x3 (joinR W H R).n (joinR W H R).f w hC hfit hml (Nat.le_trans (join_small hF) (by omega)) (fun V g h=>?_) hG (fun V g hV h=>?_)
   ·refine (specFrom_any W H _ m m R V h hn).mono ?_
    rintro e w' ⟨⟨_,S,q1,q2,_⟩ | ⟨q,_⟩,q3⟩
    ·exact⟨_,_,q1,q2,q3⟩
    ·exact absurd hF q
   ·exact ((hA W H _ m m R V h hm hn hW hH hV).1 hF).mono fun _ _ ⟨a',c',q1,q2,_,_,q3⟩=>⟨a',c',q1,q2,q3⟩
  ·refine FnExactFromPasses_at W H a m c R false 0 0 0 0 0 (fun _=>0) w hC hfit hml (by omega) (fun V g h=>?_) hG (fun V g hV h=>?_)
   ·refine (specFrom_any W H _ m m R V h hn).mono ?_
    rintro e w' ⟨⟨q,_⟩ | ⟨_,q1⟩,q3⟩
    ·exact absurd q hF
    ·exact⟨none,0,q1,.inl rfl,q3⟩
   ·exact ((hA W H _ m m R V h hm hn hW hH hV).2 hF).mono fun _ _ ⟨a',c',q1,q3⟩=>⟨a',c',q1,.inl rfl,q3⟩
 ·exact FnExactFromPasses_big W H a m c R w hC hfit hml
end
section
open Go.RowKit RastMath PassMath
def FitsP (W H N:Nat) (x2 x3:Int) (p:Nat) (q:Ras):Prop:=q.x0=(pw W H p:Int)∧q.x1=(ph W H p:Int)∧q.x2=x2∧q.x3=x3∧q.n=pw W H p * ph W H p * N
theorem from_fits {W H N:Nat} {R:Nat→Ras} (hW:1≤W∧W≤24) (hH:1≤H∧H≤24) (hN:chan (R 0).x2=(N:Int)):joinR (W:Int) (H:Int) R=⟨(W:Int),(H:Int),(R 0).x2,(R 0).x3,W * H * N,joinF W H N (fun p k=>(R p).f k)⟩∧(FromR (W:Int) (H:Int) 7 R↔((∀ p,p < 7→FitsP W H N (R 0).x2 (R 0).x3 p (R p))∧RasR (W:Int) (H:Int) (R 0).x2 (R 0).x3 (W * H * N) (joinF W H N (fun p k=>(R p).f k)))):=by
 have ej:joinR (W:Int) (H:Int) R=⟨(W:Int),(H:Int),(R 0).x2,(R 0).x3,W * H * N,joinF W H N (fun p k=>(R p).f k)⟩:=by
  unfold joinR
  rw[hN]
  rfl
 have ep:passesR (joinR (W:Int) (H:Int) R)=passR W H (R 0).x2 (R 0).x3 N (joinF W H N (fun p k=>(R p).f k)):=by
  rw[ej]
  unfold passesR
  show passR (W:Int).toNat (H:Int).toNat (R 0).x2 (R 0).x3 (chan (R 0).x2).toNat _=_
  rw[hN]
  rfl
 refine⟨ej,?_⟩
 unfold FromR RasOk
 rw[ep,ej]
 constructor
 ·rintro⟨_,h1,h2⟩
  refine⟨fun p hp=>?_,h1⟩
  obtain⟨e0,e1,e2,e3,e4,_⟩:=h2 p hp
  exact⟨e0,e1,e2,e3,e4⟩
 ·rintro⟨h2,h1⟩
  refine⟨rfl,h1,fun p hp=>?_⟩
  obtain⟨e0,e1,e2,e3,e4⟩:=h2 p hp
  have hN1:1≤N:=by
   have:=chan_pos h1.2.2.1
   omega
  refine⟨e0,e1,e2,e3,e4,fun i hi=>?_⟩
  rw[e4] at hi
  exact (join_pass hN1 hW.2 hH.2 (fun p k=>(R p).f k) hp hi).symm
end
end Go.Proofs.YtcbbcadfolgioaaDoor
