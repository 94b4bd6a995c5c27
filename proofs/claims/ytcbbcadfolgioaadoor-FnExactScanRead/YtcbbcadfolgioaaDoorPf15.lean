/-
  Texts of the proof, put together.
-/
import Derived.Test.YtcbbcadfolgioaaDoorPf14
namespace Go.Proofs.YtcbbcadfolgioaaDoor
section
open Go.RowKit Go.Joins RastMath PassMath ScanMath
theorem specScanRead_size (t:ByteArray) (W H c d:Int) (lace:Bool) (w:World) (_ht:t.size≤1048576) (hno:¬ SizeOk t W H c d lace):
  Calls Tryd.prog 31 #[.string t,.int .i64 W,.int .i64 H,.int .i64 c,.int .i64 d,.bool lace] w fun e w'=>e=.returned (.tuple #[ras0,.int .i64 1])∧Below w.heap.size w w':=by
 have HX:Hid ((w.alloc (.cells #[.int .i64 0,.int .i64 0,.int .i64 0,.int .i64 0,.slice none 0 0] 26)).heap[w.heap.size]?=some (.cells #[.int .i64 0,.int .i64 0,.int .i64 0,.int .i64 0,.slice none 0 0] 26 (0,0))):=heap_alloc_new w _
 have HB:=hid_of (bstart w (.cells #[.int .i64 0,.int .i64 0,.int .i64 0,.int .i64 0,.slice none 0 0] 26))
 have hby:=fun V=>specScanBytes W H c d lace V
 have hcase:(scanB W H c d lace == 0)=true∨((scanB W H c d lace == 0)=false∧((t.size:Int) != scanB W H c d lace)=true):=by
  by_cases h0:scanB W H c d lace=0
  ·exact .inl (by simpa using h0)
  ·refine .inr ⟨by simpa using h0,?_⟩
   have hin:SideR W∧SideR H∧DepthR c d:=by
    rcases Classical.em (SideR W∧SideR H∧DepthR c d) with q | q
    ·exact q
    ·exact absurd (show scanB W H c d lace=0 by unfold scanB; rw [if_neg q]) h0
   have:¬ (t.size:Int)=scanB W H c d lace:=fun e=>hno ⟨hin,e⟩
   simpa using this
 generalize scanB W H c d lace=SB at *
 clear hno
 rcases hcase with b0 | ⟨b0,b1⟩
 ·go_enter Tryd.func31,Tryd.ntmps31
  go_wp2_with fail
  generalize w.alloc (.cells #[.int .i64 0,.int .i64 0,.int .i64 0,.int .i64 0,.slice none 0 0] 26)=W0 at HX HB ⊢
  refine (hby W0).mono ?_
  rintro e w1 ⟨rfl,hB1⟩
  have HX1:=hid_of ((hB1.block _ (block_lt HX.out)).trans HX.out)
  have HB1:=hid_of (bnext HB.out hB1)
  clear hB1 HX HB
  obtain⟨z0,z1,z2,z3,z4,zl⟩:=ras_five HX1.out
  have zf:=unfrozen_of_block HX1.out
  go_wp2_with fail
  refine bodyPost_ret (v:=.tuple #[ras0,.int .i64 1]) ?_ rfl ⟨rfl,?_⟩
  ·simp[results,Tryd.results31,go_sem, *]
  ·iterate 5 refine Below.setCell ?_ (by exact Nat.le_refl _) _
   exact HB1.out
 ·go_enter Tryd.func31,Tryd.ntmps31
  go_wp2_with fail
  generalize w.alloc (.cells #[.int .i64 0,.int .i64 0,.int .i64 0,.int .i64 0,.slice none 0 0] 26)=W0 at HX HB ⊢
  refine (hby W0).mono ?_
  rintro e w1 ⟨rfl,hB1⟩
  have HX1:=hid_of ((hB1.block _ (block_lt HX.out)).trans HX.out)
  have HB1:=hid_of (bnext HB.out hB1)
  clear hB1 HX HB
  obtain⟨z0,z1,z2,z3,z4,zl⟩:=ras_five HX1.out
  have zf:=unfrozen_of_block HX1.out
  go_wp2_with fail
  refine bodyPost_ret (v:=.tuple #[ras0,.int .i64 1]) ?_ rfl ⟨rfl,?_⟩
  ·simp[results,Tryd.results31,go_sem, *]
  ·iterate 5 refine Below.setCell ?_ (by exact Nat.le_refl _) _
   exact HB1.out
theorem specScanRead_any (t:ByteArray) (W H c d:Int) (lace:Bool) (w:World) (h:SizeOk t W H c d lace):
  Calls Tryd.prog 31 #[.string t,.int .i64 W,.int .i64 H,.int .i64 c,.int .i64 d,.bool lace] w fun e w'=>Below w.heap.size w w'∧((KindsOk t W H c d lace∧∃ a' c',e=.returned (.tuple #[rasA (readV t W H c d lace) a' c',.int .i64 0])∧Came w' a' (readV t W H c d lace).n (readV t W H c d lace).f)∨(¬ KindsOk t W H c d lace∧e=.returned (.tuple #[ras0,.int .i64 2]))):=by
 obtain⟨⟨hW,hH,hd⟩,hs⟩:=h
 obtain⟨A,rfl⟩:=Int.eq_ofNat_of_zero_le (show 0≤W by have:=hW.1; omega)
 obtain⟨B,rfl⟩:=Int.eq_ofNat_of_zero_le (show 0≤H by have:=hH.1; omega)
 obtain⟨N,hN⟩:=Int.eq_ofNat_of_zero_le (chan_range c).1
 have h5:=five_range (depth_five hd)
 obtain⟨D,rfl⟩:=Int.eq_ofNat_of_zero_le (show 0≤d by omega)
 have hA:1≤A∧A≤24:=by have:=hW.1; have:=hW.2; omega
 have hB:1≤B∧B≤24:=by have:=hH.1; have:=hH.2; omega
 rw[scanB_in hA hB hd hN rfl] at hs
 have q:=specScanRead_in t A B N D c lace w hA hB hd hN (by omega)
 unfold KindsOk readV
 rw[hN]
 exact q
end
section
open Go.RowKit Go.Joins RastMath ScanMath
set_option maxRecDepth 100000 in
set_option maxHeartbeats 6400000 in
theorem FnExactScanRead_at (t:ByteArray) (W H c d:Int) (lace:Bool) (k x0 x1 x2 x3:Int) (n:Nat) (f:Nat→Int) (w:World) (ht:t.size≤1048576) (hn:n≤1048576)
  (hspec:Calls Tryd.prog 31 #[.string t,.int .i64 W,.int .i64 H,.int .i64 c,.int .i64 d,.bool lace] w fun e w'=>∃ a' c',e=.returned (.tuple #[.agg #[.int .i64 x0,.int .i64 x1,.int .i64 x2,.int .i64 x3,.slice a' n c'],.int .i64 k])∧Came w' a' n f∧Below w.heap.size w w')
  (hGG:GridG w) (himpl:∀ (V:World),GridG V→Calls Tryd.prog 16 #[.string t,.int .i64 W,.int .i64 H,.int .i64 c,.int .i64 d,.bool lace] V fun e w'=>∃ a' c',e=.returned (.tuple #[.agg #[.int .i64 x0,.int .i64 x1,.int .i64 x2,.int .i64 x3,.slice a' n c'],.int .i64 k])∧SL w' V.heap.size a' n c' f∧Below V.heap.size V w'):
  Calls Tryd.prog 8 #[.string t,.int .i64 W,.int .i64 H,.int .i64 c,.int .i64 d,.bool lace] w fun e w'=>e=.returned (.bool true)∧Below w.heap.size w w':=by
 have HSP:=hid_of hspec
 have HIM:=hid_of himpl
 have HGG:=hid_of hGG
 have dl:decide ((1048576:Int) < (t.size:Int))=false:=decide_eq_false (by omega)
 have hkk:(k != k)=false:=by simp
 clear hspec himpl hGG
 go_enter Tryd.func8,Tryd.ntmps8
 go_wp2_with fail
 refine HSP.out.mono ?_
 rintro e wA ⟨a0,c0,rfl,hA0,hB3⟩
 have HA0:=hid_of hA0
 have HB3:=hid_of hB3
 clear hA0 hB3 HSP
 go_wp2_with fail
 have HX:Hid ((wA.alloc (.cells #[.int .i64 x0,.int .i64 x1,.int .i64 x2,.int .i64 x3,.slice a0 n c0] 26)).heap[wA.heap.size]?=some (.cells #[.int .i64 x0,.int .i64 x1,.int .i64 x2,.int .i64 x3,.slice a0 n c0] 26 (0,0))):=heap_alloc_new wA _
 have HBX:=hid_of (bal HB3.out (.cells #[.int .i64 x0,.int .i64 x1,.int .i64 x2,.int .i64 x3,.slice a0 n c0] 26))
 have HAX:=hid_of (HA0.out.called (bstart wA (.cells #[.int .i64 x0,.int .i64 x1,.int .i64 x2,.int .i64 x3,.slice a0 n c0] 26)))
 generalize wA.alloc (.cells #[.int .i64 x0,.int .i64 x1,.int .i64 x2,.int .i64 x3,.slice a0 n c0] 26)=W0 at HX HBX HAX ⊢
 generalize wA.heap.size=X at HX ⊢
 clear HA0 HB3
 have HXL:=hid_of (block_lt HX.out)
 refine (HIM.out W0 (HGG.out.called HBX.out)).mono ?_
 rintro e w6 ⟨a1,c1,rfl,hG6,hB6⟩
 have HG6:=hid_of hG6
 have HL6:=hid_of hB6
 have HB6:=hid_of (bnext HBX.out hB6)
 clear hG6 hB6
 have lx6:X < w6.heap.size:=Nat.lt_of_lt_of_le HXL.out HL6.out.size
 have HX6:=hid_of ((Below.heap_alloc w6 (.cells #[.int .i64 x0,.int .i64 x1,.int .i64 x2,.int .i64 x3,.slice a1 n c1] 26) _ lx6).trans ((HL6.out.block _ HXL.out).trans HX.out))
 have k0:(w6.alloc (.cells #[.int .i64 x0,.int .i64 x1,.int .i64 x2,.int .i64 x3,.slice a1 n c1] 26)).cell? ⟨X,0,none⟩=some (.int .i64 x0):=(cell_of_block HX6.out 0).trans rfl
 have k1:(w6.alloc (.cells #[.int .i64 x0,.int .i64 x1,.int .i64 x2,.int .i64 x3,.slice a1 n c1] 26)).cell? ⟨X,1,none⟩=some (.int .i64 x1):=(cell_of_block HX6.out 1).trans rfl
 have k2:(w6.alloc (.cells #[.int .i64 x0,.int .i64 x1,.int .i64 x2,.int .i64 x3,.slice a1 n c1] 26)).cell? ⟨X,2,none⟩=some (.int .i64 x2):=(cell_of_block HX6.out 2).trans rfl
 have k3:(w6.alloc (.cells #[.int .i64 x0,.int .i64 x1,.int .i64 x2,.int .i64 x3,.slice a1 n c1] 26)).cell? ⟨X,3,none⟩=some (.int .i64 x3):=(cell_of_block HX6.out 3).trans rfl
 have k4:(w6.alloc (.cells #[.int .i64 x0,.int .i64 x1,.int .i64 x2,.int .i64 x3,.slice a1 n c1] 26)).cell? ⟨X,4,none⟩=some (.slice a0 n c0):=(cell_of_block HX6.out 4).trans rfl
 go_wp2_with fail
 have HY:Hid ((w6.alloc (.cells #[.int .i64 x0,.int .i64 x1,.int .i64 x2,.int .i64 x3,.slice a1 n c1] 26)).heap[w6.heap.size]?=some (.cells #[.int .i64 x0,.int .i64 x1,.int .i64 x2,.int .i64 x3,.slice a1 n c1] 26 (0,0))):=heap_alloc_new w6 _
 have HBY:=hid_of (bal HB6.out (.cells #[.int .i64 x0,.int .i64 x1,.int .i64 x2,.int .i64 x3,.slice a1 n c1] 26))
 have HLY:=hid_of (bal HL6.out (.cells #[.int .i64 x0,.int .i64 x1,.int .i64 x2,.int .i64 x3,.slice a1 n c1] 26))
 have HGY:=hid_of (HG6.out.called (bstart w6 (.cells #[.int .i64 x0,.int .i64 x1,.int .i64 x2,.int .i64 x3,.slice a1 n c1] 26)))
 have HGL0:Hid (∀ g,a1=some ⟨g,0,none⟩→0 < n→g < w6.heap.size):=fun g e h0=>by
  rcases HG6.out with q | ⟨g',e',q⟩
  ·omega
  ·rw[e'] at e
   cases e
   exact q.lt
 clear HX6 k0 k1 k2 k3 k4
 generalize w6.alloc (.cells #[.int .i64 x0,.int .i64 x1,.int .i64 x2,.int .i64 x3,.slice a1 n c1] 26)=W6 at HY HBY HLY HGY ⊢
 clear lx6
 generalize w6.heap.size=Y at HY HGL0 ⊢
 have HGL:Hid (∀ g,a1=some ⟨g,0,none⟩→0 < n→g < Y):=HGL0
 clear HG6 HL6 HB6
 refine (eqRaster_same x0 x1 x2 x3 a1 a0 n c1 c0 f W6 HGY.out.came (HAX.out.called HLY.out) hn).mono ?_
 rintro e w11 ⟨rfl,hB7⟩
 have HY11:=hid_of ((hB7.block _ (block_lt HY.out)).trans HY.out)
 have HL11:=hid_of (bnext HLY.out hB7)
 have HG11:=hid_of (HGY.out.called hB7)
 have HB11:=hid_of (bnext HBY.out hB7)
 clear hB7 HY HLY HGY HBY
 have j0:w11.cell? ⟨Y,0,none⟩=some (.int .i64 x0):=(cell_of_block HY11.out 0).trans rfl
 have j1:w11.cell? ⟨Y,1,none⟩=some (.int .i64 x1):=(cell_of_block HY11.out 1).trans rfl
 have j2:w11.cell? ⟨Y,2,none⟩=some (.int .i64 x2):=(cell_of_block HY11.out 2).trans rfl
 have j3:w11.cell? ⟨Y,3,none⟩=some (.int .i64 x3):=(cell_of_block HY11.out 3).trans rfl
 have j4:w11.cell? ⟨Y,4,none⟩=some (.slice a1 n c1):=(cell_of_block HY11.out 4).trans rfl
 have ly:=block_lt HY11.out
 go_wp2_with fail
 refine (markRaster_sl x0 x1 x2 x3 W0.heap.size a1 n c1 f 1 w11 HG11.out hn (by omega) (by omega)).mono ?_
 rintro e w12 ⟨rfl,hS12,row,hrow,hg12⟩
 have HG12:=hid_of hS12
 have HY12:=hid_of ((hg12.block _ (block_lt HY11.out) (fun e=>by obtain⟨q1,q2,_⟩:=hrow _ e.symm; have:=HGL.out _ q2 q1; omega)).trans HY11.out)
 have HL12:Hid (Below W0.heap.size W0 w12):=⟨hg12.os.trans HL11.out.os,hg12.tape.trans HL11.out.tape,hg12.output.trans HL11.out.output,Nat.le_trans HL11.out.size hg12.size,fun k hk=>(hg12.block k (Nat.lt_of_lt_of_le hk HL11.out.size) (fun e=>by have:=(hrow k e.symm).2.2; omega)).trans (HL11.out.block k hk)⟩
 have HB12:Hid (Below w.heap.size w w12):=HBX.out.trans (HL12.out.mono HBX.out.size)
 clear hS12 hrow hg12 HY11 HL11 HG11 HB11 j0 j1 j2 j3 j4 ly
 have hheld:=fun (V:World) (h:Came V a1 n (fun j=>(1:Int)+j))=>heldRaster_same x0 x1 x2 x3 a1 n c1 1 V h hn (by omega) (by omega)
 have dn:decide ((1:Int)+(n:Int) < 0)=false:=decide_eq_false (by omega)
 have bn:((1:Int)+(n:Int) != (1:Int)+(n:Int))=false:=by simp
 have j0:w12.cell? ⟨Y,0,none⟩=some (.int .i64 x0):=(cell_of_block HY12.out 0).trans rfl
 have j1:w12.cell? ⟨Y,1,none⟩=some (.int .i64 x1):=(cell_of_block HY12.out 1).trans rfl
 have j2:w12.cell? ⟨Y,2,none⟩=some (.int .i64 x2):=(cell_of_block HY12.out 2).trans rfl
 have j3:w12.cell? ⟨Y,3,none⟩=some (.int .i64 x3):=(cell_of_block HY12.out 3).trans rfl
 have j4:w12.cell? ⟨Y,4,none⟩=some (.slice a1 n c1):=(cell_of_block HY12.out 4).trans rfl
 have ly:=block_lt HY12.out
 go_wp2_with fail
 refine (hheld w12 HG12.out.came).mono ?_
 rintro e w14 ⟨rfl,hB13⟩
 have HY14:=hid_of ((hB13.block _ (block_lt HY12.out)).trans HY12.out)
 have HL14:=hid_of (bnext HL12.out hB13)
 have HG14:=hid_of (HG12.out.called hB13)
 have HB14:=hid_of (bnext HB12.out hB13)
 clear hB13 HY12 HL12 HG12 HB12 j0 j1 j2 j3 j4 ly
 go_wp2_with fail
 refine (HIM.out w14 (HGG.out.called HB14.out)).mono ?_
 rintro e w15 ⟨a2,c2,rfl,hG15,hB15⟩
 have HQ15:=hid_of hG15.came
 have HY15:=hid_of ((hB15.block _ (block_lt HY14.out)).trans HY14.out)
 have HL15:=hid_of (bnext HL14.out hB15)
 have HG15:=hid_of (HG14.out.called hB15)
 have HB15:=hid_of (bnext HB14.out hB15)
 clear hG15 hB15 HY14 HL14 HG14 HB14
 have lx15:X < w15.heap.size:=Nat.lt_of_lt_of_le HXL.out HL15.out.size
 have HX15:=hid_of ((Below.heap_alloc w15 (.cells #[.int .i64 x0,.int .i64 x1,.int .i64 x2,.int .i64 x3,.slice a2 n c2] 26) _ lx15).trans ((HL15.out.block _ HXL.out).trans HX.out))
 have k0:(w15.alloc (.cells #[.int .i64 x0,.int .i64 x1,.int .i64 x2,.int .i64 x3,.slice a2 n c2] 26)).cell? ⟨X,0,none⟩=some (.int .i64 x0):=(cell_of_block HX15.out 0).trans rfl
 have k1:(w15.alloc (.cells #[.int .i64 x0,.int .i64 x1,.int .i64 x2,.int .i64 x3,.slice a2 n c2] 26)).cell? ⟨X,1,none⟩=some (.int .i64 x1):=(cell_of_block HX15.out 1).trans rfl
 have k2:(w15.alloc (.cells #[.int .i64 x0,.int .i64 x1,.int .i64 x2,.int .i64 x3,.slice a2 n c2] 26)).cell? ⟨X,2,none⟩=some (.int .i64 x2):=(cell_of_block HX15.out 2).trans rfl
 have k3:(w15.alloc (.cells #[.int .i64 x0,.int .i64 x1,.int .i64 x2,.int .i64 x3,.slice a2 n c2] 26)).cell? ⟨X,3,none⟩=some (.int .i64 x3):=(cell_of_block HX15.out 3).trans rfl
 have k4:(w15.alloc (.cells #[.int .i64 x0,.int .i64 x1,.int .i64 x2,.int .i64 x3,.slice a2 n c2] 26)).cell? ⟨X,4,none⟩=some (.slice a0 n c0):=(cell_of_block HX15.out 4).trans rfl
 go_wp2_with fail
 have HZ:Hid ((w15.alloc (.cells #[.int .i64 x0,.int .i64 x1,.int .i64 x2,.int .i64 x3,.slice a2 n c2] 26)).heap[w15.heap.size]?=some (.cells #[.int .i64 x0,.int .i64 x1,.int .i64 x2,.int .i64 x3,.slice a2 n c2] 26 (0,0))):=heap_alloc_new w15 _
 have HBZ:=hid_of (bstart w15 (.cells #[.int .i64 x0,.int .i64 x1,.int .i64 x2,.int .i64 x3,.slice a2 n c2] 26))
 clear HX15 k0 k1 k2 k3 k4 lx15
 generalize w15.alloc (.cells #[.int .i64 x0,.int .i64 x1,.int .i64 x2,.int .i64 x3,.slice a2 n c2] 26)=W15 at HZ HBZ ⊢
 generalize w15.heap.size=Z at HZ ⊢
 have HY16:=hid_of ((HBZ.out.block _ (block_lt HY15.out)).trans HY15.out)
 have HL16:=hid_of (bnext HL15.out HBZ.out)
 have HG16:=hid_of (HG15.out.called HBZ.out)
 have HB16:=hid_of (bnext HB15.out HBZ.out)
 have HQ16:=hid_of (HQ15.out.called HBZ.out)
 clear HY15 HL15 HG15 HB15 HQ15 HBZ
 refine (eqRaster_same x0 x1 x2 x3 a2 a0 n c2 c0 f W15 HQ16.out (HAX.out.called HL16.out) hn).mono ?_
 rintro e w17 ⟨rfl,hB17⟩
 have HY17:=hid_of ((hB17.block _ (block_lt HY16.out)).trans HY16.out)
 have HG17:=hid_of (HG16.out.called hB17)
 have HB17:=hid_of (bnext HB16.out hB17)
 clear hB17 HY16 HL16 HG16 HB16 HQ16
 have j0:w17.cell? ⟨Y,0,none⟩=some (.int .i64 x0):=(cell_of_block HY17.out 0).trans rfl
 have j1:w17.cell? ⟨Y,1,none⟩=some (.int .i64 x1):=(cell_of_block HY17.out 1).trans rfl
 have j2:w17.cell? ⟨Y,2,none⟩=some (.int .i64 x2):=(cell_of_block HY17.out 2).trans rfl
 have j3:w17.cell? ⟨Y,3,none⟩=some (.int .i64 x3):=(cell_of_block HY17.out 3).trans rfl
 have j4:w17.cell? ⟨Y,4,none⟩=some (.slice a1 n c1):=(cell_of_block HY17.out 4).trans rfl
 have ly:=block_lt HY17.out
 go_wp2_with fail
 refine (hheld w17 HG17.out.came).mono ?_
 rintro e w18 ⟨rfl,hB18⟩
 have HB18:=hid_of (bnext HB17.out hB18)
 clear hB18
 go_wp2_with fail
 go_ret
 exact⟨rfl,HB18.out⟩
theorem read_small {t:ByteArray} {W H c d:Int} {lace:Bool} (h:SizeOk t W H c d lace):(readV t W H c d lace).n≤2304:=by
 obtain⟨⟨hW,hH,hd⟩,_⟩:=h
 have hok:RasOk (readV t W H c d lace):=by
  obtain⟨A,rfl⟩:=Int.eq_ofNat_of_zero_le (show 0≤W by have:=hW.1; omega)
  obtain⟨B,rfl⟩:=Int.eq_ofNat_of_zero_le (show 0≤H by have:=hH.1; omega)
  obtain⟨N,hN⟩:=Int.eq_ofNat_of_zero_le (chan_range c).1
  unfold readV
  rw[hN]
  exact read_ok t (by have:=hW.1; have:=hW.2; show 1≤A∧A≤24; omega) (by have:=hH.1; have:=hH.2; show 1≤B∧B≤24; omega) hN hd rfl
 obtain⟨w,h,n,_,_,_,hW,hH,hN,hn,_⟩:=ras_parts hok
 rw[hn]
 exact Nat.le_trans (Nat.mul_le_mul (Nat.mul_le_mul hW.2 hH.2) hN.2) (by omega)
theorem FnExactScanRead_over (hA:ScanReadAnswer) (t:ByteArray) (W H c d:Int) (lace:Bool) (w:World) (ht:t.size≤maxLen) (hW:(Lit.int .i64 W).wf=true) (hH:(Lit.int .i64 H).wf=true) (hc:(Lit.int .i64 c).wf=true) (hd:(Lit.int .i64 d).wf=true) (hG:GridG w):
  Calls Tryd.prog 8 #[.string t,.int .i64 W,.int .i64 H,.int .i64 c,.int .i64 d,.bool lace] w fun e w'=>e=.returned (.bool true)∧Below w.heap.size w w':=by
 by_cases h:t.size≤1048576
 ·by_cases hs:SizeOk t W H c d lace
  ·by_cases hk:KindsOk t W H c d lace
   ·refine FnExactScanRead_at t W H c d lace 0 (readV t W H c d lace).x0 (readV t W H c d lace).x1 (readV t W H c d lace).x2 (readV t W H c d lace).x3 (readV t W H c d lace).n (readV t W H c d lace).f w h (Nat.le_trans (read_small hs) (by omega)) ?_ hG (fun V hV=>(hA t W H c d lace V h hW hH hc hd hV).1 hs hk)
    refine (specScanRead_any t W H c d lace w hs).mono ?_
    rintro e w' ⟨q3,⟨_,a',c',q1,q2⟩ | ⟨q,_⟩⟩
    ·exact⟨a',c',q1,q2,q3⟩
    ·exact absurd hk q
   ·refine FnExactScanRead_at t W H c d lace 2 0 0 0 0 0 (fun _=>0) w h (by omega) ?_ hG (fun V hV=>((hA t W H c d lace V h hW hH hc hd hV).2.1 hs hk).mono fun _ _ ⟨a',c',q1,q3⟩=>⟨a',c',q1,.inl rfl,q3⟩)
    refine (specScanRead_any t W H c d lace w hs).mono ?_
    rintro e w' ⟨q3,⟨q,_⟩ | ⟨_,q1⟩⟩
    ·exact absurd q hk
    ·exact⟨none,0,q1,.inl rfl,q3⟩
  ·refine FnExactScanRead_at t W H c d lace 1 0 0 0 0 0 (fun _=>0) w h (by omega) ?_ hG (fun V hV=>((hA t W H c d lace V h hW hH hc hd hV).2.2 hs).mono fun _ _ ⟨a',c',q1,q3⟩=>⟨a',c',q1,.inl rfl,q3⟩)
   exact (specScanRead_size t W H c d lace w h hs).mono fun _ _ ⟨q1,q3⟩=>⟨none,0,q1,.inl rfl,q3⟩
 ·unfold maxLen at ht
  have dl:decide ((1048576:Int) < (t.size:Int))=true:=decide_eq_true (by omega)
  clear hA hG
  go_enter Tryd.func8,Tryd.ntmps8
  go_wp2_with fail
  go_ret
  exact⟨rfl,Below.refl _ _⟩
end
end Go.Proofs.YtcbbcadfolgioaaDoor
