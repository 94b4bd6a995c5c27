/-
  Texts of the proof, put together.
-/
import Derived.Test.YtcbbcadfolgioaaDoorPc04
import Derived.Test.YtcbbcadfolgioaaDoorPc08
namespace Go.Proofs.YtcbbcadfolgioaaDoor
open Go.RowKit Go.Joins
set_option maxRecDepth 100000 in
set_option maxHeartbeats 6400000 in
theorem FnExactPassesOf_at (x0 x1 x2 x3:Int) (a:Option Addr) (n cap:Nat) (f:Nat→Int) (m:Nat) (b:Bool) (R:Nat→Ras) (w:World) (hC:Came w a n f) (hn:n≤1048576) (hm:m≤7) (hR:∀ j,(R j).n≤2304)
  (hspec:∀ (V:World) (g:Nat),Came V (some ⟨g,0,none⟩) n f→Calls Tryd.prog 19 #[.agg #[.int .i64 x0,.int .i64 x1,.int .i64 x2,.int .i64 x3,.slice (some ⟨g,0,none⟩) n n]] V fun e w'=>∃ a' c',e=.returned (.tuple #[.slice a' m c',.bool b])∧RCame w' a' m R∧Below V.heap.size V w')
  (hGG:GridG w) (himpl:∀ (V:World) (g:Nat),GridG V→Came V (some ⟨g,0,none⟩) n f→Calls Tryd.prog 11 #[.agg #[.int .i64 x0,.int .i64 x1,.int .i64 x2,.int .i64 x3,.slice (some ⟨g,0,none⟩) n n]] V fun e w'=>∃ a' c',e=.returned (.tuple #[.slice a' m c',.bool b])∧RSL w' V.heap.size a' m R∧Below V.heap.size V w'):
  Calls Tryd.prog 5 #[.agg #[.int .i64 x0,.int .i64 x1,.int .i64 x2,.int .i64 x3,.slice a n cap]] w fun e w'=>e=.returned (.bool true)∧Below w.heap.size w w':=by
 have HC:=hid_of hC
 have HSP:=hid_of hspec
 have HIM:=hid_of himpl
 have HGG:=hid_of hGG
 have HRN:=hid_of hR
 have HKK:Hid (∀ j,j≤m→0≤markK R 1 j∧markK R 1 j≤1000000000):=fun j hj=>by
  have:=markK_range R 1 2304 hR j
  have h2:(4+((2304:Nat):Int)) * (j:Int)≤(4+((2304:Nat):Int)) * 7:=Int.mul_le_mul_of_nonneg_left (by omega) (by omega)
  omega
 have hsz:=fun V=>szRaster_any x0 x1 x2 x3 a n cap 1048576 V (by omega) (by omega) (by unfold maxLen; omega)
 rw[if_pos (by omega)] at hsz
 have d0:decide ((1048576:Int) - (n:Int) < 0)=false:=decide_eq_false (by omega)
 have hto:=fun (V:World) (h:Came V a n f)=>toRaster_any x0 x1 x2 x3 a n cap f V h hn
 have hbb:(b != b)=false:=bne_self_eq_false b
 have HX:Hid ((w.alloc (.cells #[.int .i64 x0,.int .i64 x1,.int .i64 x2,.int .i64 x3,.slice a n cap] 41)).heap[w.heap.size]?=some (.cells #[.int .i64 x0,.int .i64 x1,.int .i64 x2,.int .i64 x3,.slice a n cap] 41 (0,0))):=heap_alloc_new w _
 have HB:=hid_of (bstart w (.cells #[.int .i64 x0,.int .i64 x1,.int .i64 x2,.int .i64 x3,.slice a n cap] 41))
 clear hC hspec himpl hR hGG
 go_enter Tryd.func5,Tryd.ntmps5
 go_wp2_with fail
 generalize w.alloc (.cells #[.int .i64 x0,.int .i64 x1,.int .i64 x2,.int .i64 x3,.slice a n cap] 41)=W1 at HX HB ⊢
 refine (hsz W1).mono ?_
 rintro e w1 ⟨rfl,hB1⟩
 have HX1:=hid_of ((hB1.block _ (block_lt HX.out)).trans HX.out)
 have HB1:=hid_of (bnext HB.out hB1)
 clear hB1 HX HB
 have k0:w1.cell? ⟨w.heap.size,0,none⟩=some (.int .i64 x0):=(cell_of_block HX1.out 0).trans rfl
 have k1:w1.cell? ⟨w.heap.size,1,none⟩=some (.int .i64 x1):=(cell_of_block HX1.out 1).trans rfl
 have k2:w1.cell? ⟨w.heap.size,2,none⟩=some (.int .i64 x2):=(cell_of_block HX1.out 2).trans rfl
 have k3:w1.cell? ⟨w.heap.size,3,none⟩=some (.int .i64 x3):=(cell_of_block HX1.out 3).trans rfl
 have k4:w1.cell? ⟨w.heap.size,4,none⟩=some (.slice a n cap):=(cell_of_block HX1.out 4).trans rfl
 have lx1:=block_lt HX1.out
 go_wp2_with fail
 refine (hto w1 (HC.out.called HB1.out)).mono ?_
 rintro e w2 ⟨g2,rfl,hO2,hB2⟩
 have HX2:=hid_of ((hB2.block _ (block_lt HX1.out)).trans HX1.out)
 have HB2:=hid_of (bnext HB1.out hB2)
 have HO2:=hid_of hO2.came
 clear hB2 hO2 HX1 HB1 k0 k1 k2 k3 k4 lx1
 go_wp2_with fail
 refine (HSP.out w2 g2 HO2.out).mono ?_
 rintro e wA ⟨a0,c0,rfl,hR0,hB3⟩
 have HR0:=hid_of hR0
 have HX3:=hid_of ((hB3.block _ (block_lt HX2.out)).trans HX2.out)
 have HB3:=hid_of (bnext HB2.out hB3)
 have HWAX:Hid (Below w.heap.size w wA∧w.heap.size < wA.heap.size):=⟨HB3.out,block_lt HX3.out⟩
 clear hB3 hR0 HX2 HB2 HO2
 have k0:wA.cell? ⟨w.heap.size,0,none⟩=some (.int .i64 x0):=(cell_of_block HX3.out 0).trans rfl
 have k1:wA.cell? ⟨w.heap.size,1,none⟩=some (.int .i64 x1):=(cell_of_block HX3.out 1).trans rfl
 have k2:wA.cell? ⟨w.heap.size,2,none⟩=some (.int .i64 x2):=(cell_of_block HX3.out 2).trans rfl
 have k3:wA.cell? ⟨w.heap.size,3,none⟩=some (.int .i64 x3):=(cell_of_block HX3.out 3).trans rfl
 have k4:wA.cell? ⟨w.heap.size,4,none⟩=some (.slice a n cap):=(cell_of_block HX3.out 4).trans rfl
 have lx3:=block_lt HX3.out
 go_wp2_with fail
 refine (hto wA (HC.out.called HB3.out)).mono ?_
 rintro e w4 ⟨g4,rfl,hO4,hB4⟩
 have HX4:=hid_of ((hB4.block _ (block_lt HX3.out)).trans HX3.out)
 have HA4:=hid_of hB4
 have HB4:=hid_of (bnext HB3.out hB4)
 have HO4:=hid_of hO4
 have HY4:Hid ((w4.alloc (.cells #[.int .i64 x0,.int .i64 x1,.int .i64 x2,.int .i64 x3,.slice (some ⟨g4,0,none⟩) n n] 26)).heap[w4.heap.size]?=some (.cells #[.int .i64 x0,.int .i64 x1,.int .i64 x2,.int .i64 x3,.slice (some ⟨g4,0,none⟩) n n] 26 (0,0))):=heap_alloc_new w4 _
 clear hB4 hO4 HX3 HB3 k0 k1 k2 k3 k4 lx3
 go_wp2_with fail
 have HB5:Hid (Below w4.heap.size w4 (w4.alloc (.cells #[.int .i64 x0,.int .i64 x1,.int .i64 x2,.int .i64 x3,.slice (some ⟨g4,0,none⟩) n n] 26))):=bstart _ _
 generalize w4.alloc (.cells #[.int .i64 x0,.int .i64 x1,.int .i64 x2,.int .i64 x3,.slice (some ⟨g4,0,none⟩) n n] 26)=W5 at HY4 HB5 ⊢
 have HX5:=hid_of ((HB5.out.block _ (block_lt HX4.out)).trans HX4.out)
 have HO5:=hid_of (HO4.out.called HB5.out)
 have HA5:=hid_of (bnext HA4.out HB5.out)
 have HD5:=hid_of (bnext HB4.out HB5.out)
 generalize w4.heap.size=X at HY4 ⊢
 clear HX4 HO4 HB4 HB5 HA4
 refine (HIM.out W5 g4 (HGG.out.called HD5.out) HO5.out.came).mono ?_
 rintro e w6 ⟨a1,c1,rfl,hG6,hB6⟩
 have HG6:=hid_of hG6
 have HX6:=hid_of ((hB6.block _ (block_lt HX5.out)).trans HX5.out)
 have HY6:=hid_of ((hB6.block _ (block_lt HY4.out)).trans HY4.out)
 have HO6:=hid_of (HO5.out.called hB6)
 have HGL:Hid (g4 < W5.heap.size∧wA.heap.size≤g4):=⟨HO5.out.lt,HO5.out.base_le⟩
 have HA6:=hid_of (bnext HA5.out hB6)
 have HB6:=hid_of (bnext HD5.out hB6)
 have HWS:Hid (wA.heap.size≤W5.heap.size):=HA5.out.size
 clear hG6 hB6 HX5 HY4 HO5 HD5 HA5
 go_wp2_with fail
 refine (eqRasterS_same a1 a0 m c1 c0 R w6 HG6.out.came (HR0.out.called HA6.out) (by omega) (fun j _=>Nat.le_trans (HRN.out j) (by omega))).mono ?_
 rintro e w7 ⟨rfl,hB7⟩
 have HG7:=hid_of (HG6.out.called hB7)
 have HX7:=hid_of ((hB7.block _ (block_lt HX6.out)).trans HX6.out)
 have HY7:=hid_of ((hB7.block _ (block_lt HY6.out)).trans HY6.out)
 have HO7:=hid_of (HO6.out.called hB7)
 have HA7:=hid_of (bnext HA6.out hB7)
 have HB7:=hid_of (bnext HB6.out hB7)
 clear hB7 HG6 HX6 HY6 HO6 HA6 HB6
 have k0:w7.cell? ⟨w.heap.size,0,none⟩=some (.int .i64 x0):=(cell_of_block HX7.out 0).trans rfl
 have k1:w7.cell? ⟨w.heap.size,1,none⟩=some (.int .i64 x1):=(cell_of_block HX7.out 1).trans rfl
 have k2:w7.cell? ⟨w.heap.size,2,none⟩=some (.int .i64 x2):=(cell_of_block HX7.out 2).trans rfl
 have k3:w7.cell? ⟨w.heap.size,3,none⟩=some (.int .i64 x3):=(cell_of_block HX7.out 3).trans rfl
 have k4:w7.cell? ⟨w.heap.size,4,none⟩=some (.slice a n cap):=(cell_of_block HX7.out 4).trans rfl
 have j0:w7.cell? ⟨X,0,none⟩=some (.int .i64 x0):=(cell_of_block HY7.out 0).trans rfl
 have j1:w7.cell? ⟨X,1,none⟩=some (.int .i64 x1):=(cell_of_block HY7.out 1).trans rfl
 have j2:w7.cell? ⟨X,2,none⟩=some (.int .i64 x2):=(cell_of_block HY7.out 2).trans rfl
 have j3:w7.cell? ⟨X,3,none⟩=some (.int .i64 x3):=(cell_of_block HY7.out 3).trans rfl
 have j4:w7.cell? ⟨X,4,none⟩=some (.slice (some ⟨g4,0,none⟩) n n):=(cell_of_block HY7.out 4).trans rfl
 have lx7:=block_lt HX7.out
 have ly7:=block_lt HY7.out
 go_wp2_with fail
 refine wp_region_held (S:=fun u=>u.cell? ⟨w.heap.size,0,none⟩=some (.int .i64 x0)∧u.cell? ⟨w.heap.size,1,none⟩=some (.int .i64 x1)∧u.cell? ⟨w.heap.size,2,none⟩=some (.int .i64 x2)∧u.cell? ⟨w.heap.size,3,none⟩=some (.int .i64 x3)∧u.cell? ⟨w.heap.size,4,none⟩=some (.slice a n cap)∧u.cell? ⟨X,0,none⟩=some (.int .i64 x0)∧u.cell? ⟨X,1,none⟩=some (.int .i64 x1)∧u.cell? ⟨X,2,none⟩=some (.int .i64 x2)∧u.cell? ⟨X,3,none⟩=some (.int .i64 x3)∧u.cell? ⟨X,4,none⟩=some (.slice (some ⟨g4,0,none⟩) n n)) (by kernel_rfl) ?_
 show wpAnyH _ _ _ _ _ _ _ _ w7.drew
 have HS:w7.drew.cell? ⟨w.heap.size,0,none⟩=some (.int .i64 x0)∧w7.drew.cell? ⟨w.heap.size,1,none⟩=some (.int .i64 x1)∧w7.drew.cell? ⟨w.heap.size,2,none⟩=some (.int .i64 x2)∧w7.drew.cell? ⟨w.heap.size,3,none⟩=some (.int .i64 x3)∧w7.drew.cell? ⟨w.heap.size,4,none⟩=some (.slice a n cap)∧w7.drew.cell? ⟨X,0,none⟩=some (.int .i64 x0)∧w7.drew.cell? ⟨X,1,none⟩=some (.int .i64 x1)∧w7.drew.cell? ⟨X,2,none⟩=some (.int .i64 x2)∧w7.drew.cell? ⟨X,3,none⟩=some (.int .i64 x3)∧w7.drew.cell? ⟨X,4,none⟩=some (.slice (some ⟨g4,0,none⟩) n n):=⟨k0,k1,k2,k3,k4,j0,j1,j2,j3,j4⟩
 refine wpAnyH_take (i:=0) (v:=.agg #[.int .i64 x0,.int .i64 x1,.int .i64 x2,.int .i64 x3,.slice (some ⟨g4,0,none⟩) n n]) rfl (by kernel_rfl) (by kernel_rfl) (by kernel_rfl) (fun _ _ _ h=>h) (Or.inl ⟨by rfl,?_⟩) HS ?_
 ·intro w' hS
  obtain⟨s0,s1,s2,s3,s4,t0,t1,t2,t3,t4⟩:=hS
  go_simp
 simp only [Act.put,List.getElem_toArray,List.getElem_cons_zero,List.setIfInBounds_toArray,List.set_cons_zero,List.set_cons_succ]
 refine wpAnyH_take (i:=1) (v:=.agg #[.int .i64 x0,.int .i64 x1,.int .i64 x2,.int .i64 x3,.slice a n cap]) rfl (by kernel_rfl) (by kernel_rfl) (by kernel_rfl) (fun _ _ _ h=>h) (Or.inl ⟨by rfl,?_⟩) HS ?_
 ·intro w' hS
  obtain⟨s0,s1,s2,s3,s4,t0,t1,t2,t3,t4⟩:=hS
  go_simp
 simp only [Act.put,List.getElem_toArray,List.getElem_cons_zero,List.getElem_cons_succ,List.setIfInBounds_toArray,List.set_cons_zero,List.set_cons_succ]
 refine wpAnyH_ready (rs:=[2]) (by kernel_rfl) (by simp) ?_
 refine AllReadyH.cons rfl (fun K hK=>?_) AllReadyH.nil
 refine if_wanted (wanted_none rfl) ?_
 simp only [List.getElem_toArray,List.getElem_cons_zero,List.getElem_cons_succ]
 go_simp
 refine (hto w7.drew (by exact HC.out.called HB7.out.drew)).mono ?_
 rintro e w8 ⟨g8,rfl,hO8,hB8⟩
 have HC8:Hid (Below w7.heap.size w7 w8):=⟨hB8.1,hB8.2,hB8.3,hB8.4,hB8.5⟩
 have HP8:=hid_of hO8.came
 have HG8:=hid_of (HG7.out.called HC8.out)
 have HX8:=hid_of ((HC8.out.block _ (block_lt HX7.out)).trans HX7.out)
 have HY8:=hid_of ((HC8.out.block _ (block_lt HY7.out)).trans HY7.out)
 have HO8:=hid_of (HO7.out.called HC8.out)
 have HA8:=hid_of (bnext HA7.out HC8.out)
 have HB8:=hid_of (bnext HB7.out HC8.out)
 clear hO8 hB8 HC8 HG7 HX7 HY7 HO7 HA7 HB7
 have mm0:w8.cell? ⟨w.heap.size,0,none⟩=some (.int .i64 x0):=(cell_of_block HX8.out 0).trans rfl
 have mm1:w8.cell? ⟨w.heap.size,1,none⟩=some (.int .i64 x1):=(cell_of_block HX8.out 1).trans rfl
 have mm2:w8.cell? ⟨w.heap.size,2,none⟩=some (.int .i64 x2):=(cell_of_block HX8.out 2).trans rfl
 have mm3:w8.cell? ⟨w.heap.size,3,none⟩=some (.int .i64 x3):=(cell_of_block HX8.out 3).trans rfl
 have mm4:w8.cell? ⟨w.heap.size,4,none⟩=some (.slice a n cap):=(cell_of_block HX8.out 4).trans rfl
 have nn0:w8.cell? ⟨X,0,none⟩=some (.int .i64 x0):=(cell_of_block HY8.out 0).trans rfl
 have nn1:w8.cell? ⟨X,1,none⟩=some (.int .i64 x1):=(cell_of_block HY8.out 1).trans rfl
 have nn2:w8.cell? ⟨X,2,none⟩=some (.int .i64 x2):=(cell_of_block HY8.out 2).trans rfl
 have nn3:w8.cell? ⟨X,3,none⟩=some (.int .i64 x3):=(cell_of_block HY8.out 3).trans rfl
 have nn4:w8.cell? ⟨X,4,none⟩=some (.slice (some ⟨g4,0,none⟩) n n):=(cell_of_block HY8.out 4).trans rfl
 refine hK.out _ _ ⟨mm0,mm1,mm2,mm3,mm4,nn0,nn1,nn2,nn3,nn4⟩ (fun HS2=>?_)
 clear hK K
 refine wpAnyH_ready (rs:=[3]) (by kernel_rfl) (by simp) ?_
 refine AllReadyH.cons rfl (fun K hK=>?_) AllReadyH.nil
 refine if_wanted (wanted_none rfl) ?_
 simp only [List.getElem_toArray,List.getElem_cons_zero,List.getElem_cons_succ]
 go_simp
 refine (eqRaster_same x0 x1 x2 x3 (some ⟨g4,0,none⟩) (some ⟨g8,0,none⟩) n n n f w8 HO8.out.came HP8.out hn).mono ?_
 rintro e w9 ⟨rfl,hB9⟩
 have HG9:=hid_of (HG8.out.called hB9)
 have HX9:=hid_of ((hB9.block _ (block_lt HX8.out)).trans HX8.out)
 have HY9:=hid_of ((hB9.block _ (block_lt HY8.out)).trans HY8.out)
 have HO9:=hid_of (HO8.out.called hB9)
 have HA9:=hid_of (bnext HA8.out hB9)
 have HB9:=hid_of (bnext HB8.out hB9)
 clear hB9 HG8 HX8 HY8 HO8 HA8 HB8 HP8
 have pp0:w9.cell? ⟨w.heap.size,0,none⟩=some (.int .i64 x0):=(cell_of_block HX9.out 0).trans rfl
 have pp1:w9.cell? ⟨w.heap.size,1,none⟩=some (.int .i64 x1):=(cell_of_block HX9.out 1).trans rfl
 have pp2:w9.cell? ⟨w.heap.size,2,none⟩=some (.int .i64 x2):=(cell_of_block HX9.out 2).trans rfl
 have pp3:w9.cell? ⟨w.heap.size,3,none⟩=some (.int .i64 x3):=(cell_of_block HX9.out 3).trans rfl
 have pp4:w9.cell? ⟨w.heap.size,4,none⟩=some (.slice a n cap):=(cell_of_block HX9.out 4).trans rfl
 have qq0:w9.cell? ⟨X,0,none⟩=some (.int .i64 x0):=(cell_of_block HY9.out 0).trans rfl
 have qq1:w9.cell? ⟨X,1,none⟩=some (.int .i64 x1):=(cell_of_block HY9.out 1).trans rfl
 have qq2:w9.cell? ⟨X,2,none⟩=some (.int .i64 x2):=(cell_of_block HY9.out 2).trans rfl
 have qq3:w9.cell? ⟨X,3,none⟩=some (.int .i64 x3):=(cell_of_block HY9.out 3).trans rfl
 have qq4:w9.cell? ⟨X,4,none⟩=some (.slice (some ⟨g4,0,none⟩) n n):=(cell_of_block HY9.out 4).trans rfl
 refine hK.out _ _ ⟨pp0,pp1,pp2,pp3,pp4,qq0,qq1,qq2,qq3,qq4⟩ (fun HS3=>?_)
 clear hK K
 refine wpAnyH_take (i:=4) (v:=.bool false) rfl (by kernel_rfl) (by kernel_rfl) (by kernel_rfl) (fun _ _ _ h=>h) (Or.inl ⟨by rfl,?_⟩) HS3 ?_
 ·intro w' hS
  obtain⟨s0,s1,s2,s3,s4,t0,t1,t2,t3,t4⟩:=hS
  go_simp
 simp only [Act.put,List.getElem_toArray,List.getElem_cons_zero,List.getElem_cons_succ,List.setIfInBounds_toArray,List.set_cons_zero,List.set_cons_succ]
 refine wpAnyH_done (by kernel_rfl) ?_ _
 have ly9:=block_lt HY9.out
 clear HS HS2 HS3 k0 k1 k2 k3 k4 j0 j1 j2 j3 j4 mm0 mm1 mm2 mm3 mm4 nn0 nn1 nn2 nn3 nn4 pp0 pp1 pp2 pp3 pp4 lx7 ly7
 go_wp2_with fail
 refine (markRaster_own x0 x1 x2 x3 wA.heap.size g4 n n f 1 w9 HO9.out hn (by omega) (by omega)).mono ?_
 rintro e w10 ⟨rfl,hg10⟩
 have HR10:Hid (RCame w10 a0 m R):=(HR0.out.called HA9.out).other HR0.out hg10 HA9.out HGL.out.2
 have HG10:Hid (RSL w10 W5.heap.size a1 m R):=HG9.out.other hg10 (by have:=HGL.out.1; omega)
 have HA10:Hid (Below wA.heap.size wA w10):=⟨hg10.os.trans HA9.out.os,hg10.tape.trans HA9.out.tape,hg10.output.trans HA9.out.output,Nat.le_trans HA9.out.size hg10.size,fun k hk=>(hg10.block k (Nat.lt_of_lt_of_le hk HA9.out.size) (fun e=>by have:=HGL.out.2; have:=Option.some.inj e; omega)).trans (HA9.out.block k hk)⟩
 have HWA:Hid (Below w.heap.size w wA∧w.heap.size < wA.heap.size):=HWAX
 have HB10:Hid (Below w.heap.size w w10):=HWA.out.1.trans (HA10.out.mono (by have:=HWA.out.2; omega))
 have HX10:Hid (w10.heap[w.heap.size]?=some (.cells #[.int .i64 x0,.int .i64 x1,.int .i64 x2,.int .i64 x3,.slice a n cap] 41 (0,0))):=(hg10.block _ (block_lt HX9.out) (fun e=>by have:=HGL.out.2; have:=HWA.out.2; have:=Option.some.inj e; omega)).trans HX9.out
 clear hg10 HG9 HX9 HY9 HO9 HA9 HB9 qq0 qq1 qq2 qq3 qq4 ly9
 have dk:decide ((1:Int)+(n:Int) < 0)=false:=decide_eq_false (by omega)
 go_wp2_with fail
 refine (eqRasterS_same a1 a0 m c1 c0 R w10 HG10.out.came HR10.out (by omega) (fun j _=>Nat.le_trans (HRN.out j) (by omega))).mono ?_
 rintro e w11 ⟨rfl,hB11⟩
 have HG11:=hid_of (HG10.out.called hB11)
 have HX11:=hid_of ((hB11.block _ (block_lt HX10.out)).trans HX10.out)
 have HA11:=hid_of (bnext HA10.out hB11)
 have HB11:=hid_of (bnext HB10.out hB11)
 clear hB11 HG10 HX10 HR10 HA10 HB10
 go_wp2_with fail
 refine (markRasterS_sl W5.heap.size a1 m c1 R 1 w11 HG11.out (by omega) (fun j _=>Nat.le_trans (HRN.out j) (by omega)) HKK.out).mono ?_
 rintro e w12 ⟨rfl,hG12,hB12⟩
 have HG12:=hid_of hG12
 have HA12:Hid (Below wA.heap.size wA w12):=HA11.out.trans (hB12.mono HWS.out)
 have HB12:Hid (Below w.heap.size w w12):=HWA.out.1.trans (HA12.out.mono (by have:=HWA.out.2; omega))
 have HX12:Hid (w12.heap[w.heap.size]?=some (.cells #[.int .i64 x0,.int .i64 x1,.int .i64 x2,.int .i64 x3,.slice a n cap] 41 (0,0))):=(hB12.block _ (by have:=HWA.out.2; have:=HWS.out; omega)).trans HX11.out
 clear hG12 hB12 HG11 HX11 HA11 HB11
 have hheld:=fun (V:World) (h:RCame V a1 m (markR R 1))=>heldRasterS_same a1 m c1 R 1 V h (by omega) (fun j _=>Nat.le_trans (HRN.out j) (by omega)) HKK.out
 have hK0:=HKK.out m (Nat.le_refl _)
 have dM:decide (markK R 1 m < 0)=false:=decide_eq_false (by omega)
 have bM:(markK R 1 m != markK R 1 m)=false:=by simp
 generalize markK R 1 m=MK at hheld hK0 dM bM ⊢
 go_wp2_with fail
 refine (hheld w12 HG12.out.came).mono ?_
 rintro e w13 ⟨rfl,hB13⟩
 have HG13:=hid_of (HG12.out.called hB13)
 have HX13:=hid_of ((hB13.block _ (block_lt HX12.out)).trans HX12.out)
 have HA13:=hid_of (bnext HA12.out hB13)
 have HB13:=hid_of (bnext HB12.out hB13)
 clear hB13 HG12 HX12 HA12 HB12
 have k0:w13.cell? ⟨w.heap.size,0,none⟩=some (.int .i64 x0):=(cell_of_block HX13.out 0).trans rfl
 have k1:w13.cell? ⟨w.heap.size,1,none⟩=some (.int .i64 x1):=(cell_of_block HX13.out 1).trans rfl
 have k2:w13.cell? ⟨w.heap.size,2,none⟩=some (.int .i64 x2):=(cell_of_block HX13.out 2).trans rfl
 have k3:w13.cell? ⟨w.heap.size,3,none⟩=some (.int .i64 x3):=(cell_of_block HX13.out 3).trans rfl
 have k4:w13.cell? ⟨w.heap.size,4,none⟩=some (.slice a n cap):=(cell_of_block HX13.out 4).trans rfl
 have lx13:=block_lt HX13.out
 go_wp2_with fail
 refine (hto w13 (HC.out.called HB13.out)).mono ?_
 rintro e w14 ⟨g14,rfl,hO14,hB14⟩
 have HP14:=hid_of hO14.came
 have HG14:=hid_of (HG13.out.called hB14)
 have HA14:=hid_of (bnext HA13.out hB14)
 have HB14:=hid_of (bnext HB13.out hB14)
 clear hO14 hB14 HG13 HX13 HA13 HB13 k0 k1 k2 k3 k4 lx13
 go_wp2_with fail
 refine (HIM.out w14 g14 (HGG.out.called HB14.out) HP14.out).mono ?_
 rintro e w15 ⟨a2,c2,rfl,hG15,hB15⟩
 have HQ15:=hid_of hG15.came
 have HG15:=hid_of (HG14.out.called hB15)
 have HA15:=hid_of (bnext HA14.out hB15)
 have HB15:=hid_of (bnext HB14.out hB15)
 clear hG15 hB15 HG14 HA14 HB14 HP14
 go_wp2_with fail
 refine (eqRasterS_same a2 a0 m c2 c0 R w15 HQ15.out (HR0.out.called HA15.out) (by omega) (fun j _=>Nat.le_trans (HRN.out j) (by omega))).mono ?_
 rintro e w16 ⟨rfl,hB16⟩
 have HG16:=hid_of (HG15.out.called hB16)
 have HB16:=hid_of (bnext HB15.out hB16)
 clear hB16 HG15 HB15 HQ15 HA15
 go_wp2_with fail
 refine (hheld w16 HG16.out.came).mono ?_
 rintro e w17 ⟨rfl,hB17⟩
 have HB17:=hid_of (bnext HB16.out hB17)
 clear hB17
 go_wp2_with fail
 go_ret
 exact⟨rfl,HB17.out⟩
theorem FnExactPassesOf_big (x0 x1 x2 x3:Int) (a:Option Addr) (n cap:Nat) (w:World) (h:¬ n≤1048576) (hl:n≤maxLen):
  Calls Tryd.prog 5 #[.agg #[.int .i64 x0,.int .i64 x1,.int .i64 x2,.int .i64 x3,.slice a n cap]] w fun e w'=>e=.returned (.bool true)∧Below w.heap.size w w':=by
 have hsz:=fun V=>szRaster_any x0 x1 x2 x3 a n cap 1048576 V (by omega) (by omega) hl
 rw[if_neg (by omega)] at hsz
 have HB:=hid_of (bstart w (.cells #[.int .i64 x0,.int .i64 x1,.int .i64 x2,.int .i64 x3,.slice a n cap] 41))
 go_enter Tryd.func5,Tryd.ntmps5
 go_wp2_with fail
 generalize w.alloc (.cells #[.int .i64 x0,.int .i64 x1,.int .i64 x2,.int .i64 x3,.slice a n cap] 41)=W1 at HB ⊢
 refine (hsz W1).mono ?_
 rintro e w1 ⟨rfl,hB1⟩
 have HB1:=hid_of (bnext HB.out hB1)
 clear hB1
 go_wp2_with fail
 go_ret
 exact⟨rfl,HB1.out⟩
theorem FnExactPassesOf_over (hA:PassesAnswer) (x0 x1 x2 x3:Int) (a:Option Addr) (len cap:Nat) (zs:List Int) (w:World) (_:(Lit.int .i64 x0).wf=true) (_:(Lit.int .i64 x1).wf=true) (_:(Lit.int .i64 x2).wf=true) (_:(Lit.int .i64 x3).wf=true) (hr:IsRow .i64 w a len cap zs) (hG:GridG w):
  Calls Tryd.prog 5 #[.agg #[.int .i64 x0,.int .i64 x1,.int .i64 x2,.int .i64 x3,.slice a len cap]] w fun e w'=>e=.returned (.bool true)∧Below w.heap.size w w':=by
 obtain⟨hC,hm,_⟩:=came_of_row hr
 by_cases hn:len≤1048576
 ·obtain⟨r,er⟩:∃ r:Ras,r=⟨x0,x1,x2,x3,len,fun j=>zs.getD j 0⟩:=⟨_,rfl⟩
  have ev:∀ g:Nat,(Value.agg #[.int .i64 x0,.int .i64 x1,.int .i64 x2,.int .i64 x3,.slice (some ⟨g,0,none⟩) len len])=rasA r (some ⟨g,0,none⟩) len:=fun g=>by rw [er]
  have ec:∀ (V:World) (g:Nat),Came V (some ⟨g,0,none⟩) len (fun j=>zs.getD j 0)→Came V (some ⟨g,0,none⟩) r.n r.f:=fun V g h=>by rw [er]; exact h
  have en:r.n=len:=by rw [er]
  have hlm:len≤maxLen:=by unfold maxLen; omega
  by_cases hok:RasOk r
  ·refine FnExactPassesOf_at x0 x1 x2 x3 a len cap _ 7 true (passesR r) w hC hn (by omega) (fun j=>passes_small hok j) (fun V g h=>?_) hG (fun V g hV h=>?_)
   ·rw[ev g]
    exact specPassesOf_yes r _ len V hok (ec V g h) (by omega) hlm
   ·rw[ev g]
    exact (hA r _ len V (ec V g h) (by omega) (by omega) hlm hV).1 hok
  ·refine FnExactPassesOf_at x0 x1 x2 x3 a len cap _ 0 false (fun _=>⟨0,0,0,0,0,fun _=>0⟩) w hC hn (by omega) (fun j=>Nat.zero_le _) (fun V g h=>?_) hG (fun V g hV h=>?_)
   ·rw[ev g]
    exact (specPassesOf_no r _ len V hok (ec V g h) (by omega)).mono fun _ _ ⟨a',c',q1,q2⟩=>⟨a',c',q1,.inl rfl,q2⟩
   ·rw[ev g]
    exact ((hA r _ len V (ec V g h) (by omega) (by omega) hlm hV).2 hok).mono fun _ _ ⟨a',c',q1,q2⟩=>⟨a',c',q1,.inl rfl,q2⟩
 ·exact FnExactPassesOf_big x0 x1 x2 x3 a len cap w hn hm
end Go.Proofs.YtcbbcadfolgioaaDoor
