/-
  Texts of the proof, put together.
-/
import Derived.Test.YtcbbcadfolgioaaDoorPe14
namespace Go.Proofs.YtcbbcadfolgioaaDoor
section
open Go.RowKit Go.Joins RastMath ScanMath
set_option maxRecDepth 100000 in
set_option maxHeartbeats 1600000 in
theorem FnExactScanOf_at (x0 x1 x2 x3:Int) (a:Option Addr) (n cap:Nat) (f:Nat→Int) (w:World) (lace:Bool) (way:Int) (T:ByteArray) (b:Bool) (hC:Came w a n f) (hn:n≤1048576) (hGG:GridG w)
  (hspec:∀ (V:World) (g:Nat),Came V (some ⟨g,0,none⟩) n f→Calls Tryd.prog 30 #[.agg #[.int .i64 x0,.int .i64 x1,.int .i64 x2,.int .i64 x3,.slice (some ⟨g,0,none⟩) n n],.bool lace,.int .i64 way] V fun e w'=>e=.returned (.tuple #[.string T,.bool b])∧Below V.heap.size V w')
  (himpl:∀ (V:World) (g:Nat),GridG V→Came V (some ⟨g,0,none⟩) n f→Calls Tryd.prog 15 #[.agg #[.int .i64 x0,.int .i64 x1,.int .i64 x2,.int .i64 x3,.slice (some ⟨g,0,none⟩) n n],.bool lace,.int .i64 way] V fun e w'=>e=.returned (.tuple #[.string T,.bool b])∧Below V.heap.size V w'):
  Calls Tryd.prog 7 #[.agg #[.int .i64 x0,.int .i64 x1,.int .i64 x2,.int .i64 x3,.slice a n cap],.bool lace,.int .i64 way] w fun e w'=>e=.returned (.bool true)∧Below w.heap.size w w':=by
 have HC:=hid_of hC
 have HSP:=hid_of hspec
 have HIM:=hid_of himpl
 have HGG:=hid_of hGG
 have hbb:(b != b)=false:=bne_self_eq_false b
 have hsz:=fun W=>szRaster_any x0 x1 x2 x3 a n cap 1048576 W (by omega) (by omega) (by unfold maxLen; omega)
 rw[if_pos (by omega)] at hsz
 have d0:decide ((1048576:Int) - (n:Int) < 0)=false:=decide_eq_false (by omega)
 have hto:=fun (W:World) (h:Came W a n f)=>toRaster_any x0 x1 x2 x3 a n cap f W h hn
 have HX:Hid ((w.alloc (.cells #[.int .i64 x0,.int .i64 x1,.int .i64 x2,.int .i64 x3,.slice a n cap] 41)).heap[w.heap.size]?=some (.cells #[.int .i64 x0,.int .i64 x1,.int .i64 x2,.int .i64 x3,.slice a n cap] 41 (0,0))):=heap_alloc_new w _
 have HB:=hid_of (bstart w (.cells #[.int .i64 x0,.int .i64 x1,.int .i64 x2,.int .i64 x3,.slice a n cap] 41))
 clear hC hspec himpl hGG
 go_enter Tryd.func7,Tryd.ntmps7
 go_wp2_with fail
 generalize w.alloc (.cells #[.int .i64 x0,.int .i64 x1,.int .i64 x2,.int .i64 x3,.slice a n cap] 41)=W1 at HX HB ⊢
 refine (hsz W1).mono ?_
 rintro e w1 ⟨rfl,hB1⟩
 have HX1:=hid_of ((hB1.block _ (block_lt HX.out)).trans HX.out)
 have HB1:=hid_of (bnext HB.out hB1)
 clear hB1 HX HB
 have k0:w1.cell? ⟨w.heap.size,0,none⟩=some (.int .i64 x0):=(cell_of_block HX1.out 0).trans rfl
 have k1:w1.cell? ⟨w.heap.size,1,none⟩=some (.int .i64 x1):=(cell_of_block HX1.out 1).trans rfl
 have k2:w1.cell? ⟨w.heap.size,2,none⟩=some (.int .i64 x2):=(cell_of_block HX1.out 2).trans rfl
 have k3:w1.cell? ⟨w.heap.size,3,none⟩=some (.int .i64 x3):=(cell_of_block HX1.out 3).trans rfl
 have k4:w1.cell? ⟨w.heap.size,4,none⟩=some (.slice a n cap):=(cell_of_block HX1.out 4).trans rfl
 have lx1:=block_lt HX1.out
 go_wp2_with fail
 refine (hto w1 (HC.out.called HB1.out)).mono ?_
 rintro e w2 ⟨g2,rfl,hO2,hB2⟩
 have HX2:=hid_of ((hB2.block _ (block_lt HX1.out)).trans HX1.out)
 have HB2:=hid_of (bnext HB1.out hB2)
 have HO2:=hid_of hO2
 clear hB2 hO2 HX1 HB1 k0 k1 k2 k3 k4 lx1
 go_wp2_with fail
 refine (HSP.out w2 g2 HO2.out.came).mono ?_
 rintro e w3 ⟨rfl,hB3⟩
 have HX3:=hid_of ((hB3.block _ (block_lt HX2.out)).trans HX2.out)
 have HB3:=hid_of (bnext HB2.out hB3)
 clear hB3 HX2 HB2 HO2
 have k0:w3.cell? ⟨w.heap.size,0,none⟩=some (.int .i64 x0):=(cell_of_block HX3.out 0).trans rfl
 have k1:w3.cell? ⟨w.heap.size,1,none⟩=some (.int .i64 x1):=(cell_of_block HX3.out 1).trans rfl
 have k2:w3.cell? ⟨w.heap.size,2,none⟩=some (.int .i64 x2):=(cell_of_block HX3.out 2).trans rfl
 have k3:w3.cell? ⟨w.heap.size,3,none⟩=some (.int .i64 x3):=(cell_of_block HX3.out 3).trans rfl
 have k4:w3.cell? ⟨w.heap.size,4,none⟩=some (.slice a n cap):=(cell_of_block HX3.out 4).trans rfl
 have lx3:=block_lt HX3.out
 go_wp2_with fail
 refine (hto w3 (HC.out.called HB3.out)).mono ?_
 rintro e w4 ⟨g4,rfl,hO4,hB4⟩
 have HX4:=hid_of ((hB4.block _ (block_lt HX3.out)).trans HX3.out)
 have HB4:=hid_of (bnext HB3.out hB4)
 have HO4:=hid_of hO4
 have HY4:Hid ((w4.alloc (.cells #[.int .i64 x0,.int .i64 x1,.int .i64 x2,.int .i64 x3,.slice (some ⟨g4,0,none⟩) n n] 26)).heap[w4.heap.size]?=some (.cells #[.int .i64 x0,.int .i64 x1,.int .i64 x2,.int .i64 x3,.slice (some ⟨g4,0,none⟩) n n] 26 (0,0))):=heap_alloc_new w4 _
 clear hB4 hO4 HX3 HB3 k0 k1 k2 k3 k4 lx3
 go_wp2_with fail
 have HB5:Hid (Below w4.heap.size w4 (w4.alloc (.cells #[.int .i64 x0,.int .i64 x1,.int .i64 x2,.int .i64 x3,.slice (some ⟨g4,0,none⟩) n n] 26))):=bstart _ _
 generalize w4.alloc (.cells #[.int .i64 x0,.int .i64 x1,.int .i64 x2,.int .i64 x3,.slice (some ⟨g4,0,none⟩) n n] 26)=W5 at HY4 HB5 ⊢
 have HX5:=hid_of ((HB5.out.block _ (block_lt HX4.out)).trans HX4.out)
 have HO5:=hid_of (HO4.out.called HB5.out)
 have HD5:=hid_of (bnext HB4.out HB5.out)
 generalize w4.heap.size=X at HY4 ⊢
 clear HX4 HO4 HB4 HB5
 refine (HIM.out W5 g4 (HGG.out.called HD5.out) HO5.out.came).mono ?_
 rintro e w6 ⟨rfl,hB6⟩
 have HX6:=hid_of ((hB6.block _ (block_lt HX5.out)).trans HX5.out)
 have HY6:=hid_of ((hB6.block _ (block_lt HY4.out)).trans HY4.out)
 have HO6:=hid_of (HO5.out.called hB6)
 have HB6:=hid_of (bnext HD5.out hB6)
 clear hB6 HX5 HY4 HO5 HD5
 have k0:w6.cell? ⟨w.heap.size,0,none⟩=some (.int .i64 x0):=(cell_of_block HX6.out 0).trans rfl
 have k1:w6.cell? ⟨w.heap.size,1,none⟩=some (.int .i64 x1):=(cell_of_block HX6.out 1).trans rfl
 have k2:w6.cell? ⟨w.heap.size,2,none⟩=some (.int .i64 x2):=(cell_of_block HX6.out 2).trans rfl
 have k3:w6.cell? ⟨w.heap.size,3,none⟩=some (.int .i64 x3):=(cell_of_block HX6.out 3).trans rfl
 have k4:w6.cell? ⟨w.heap.size,4,none⟩=some (.slice a n cap):=(cell_of_block HX6.out 4).trans rfl
 have j0:w6.cell? ⟨X,0,none⟩=some (.int .i64 x0):=(cell_of_block HY6.out 0).trans rfl
 have j1:w6.cell? ⟨X,1,none⟩=some (.int .i64 x1):=(cell_of_block HY6.out 1).trans rfl
 have j2:w6.cell? ⟨X,2,none⟩=some (.int .i64 x2):=(cell_of_block HY6.out 2).trans rfl
 have j3:w6.cell? ⟨X,3,none⟩=some (.int .i64 x3):=(cell_of_block HY6.out 3).trans rfl
 have j4:w6.cell? ⟨X,4,none⟩=some (.slice (some ⟨g4,0,none⟩) n n):=(cell_of_block HY6.out 4).trans rfl
 have lx6:=block_lt HX6.out
 have ly6:=block_lt HY6.out
 go_wp2_with fail
 refine wp_region_held (S:=fun u=>u.cell? ⟨w.heap.size,0,none⟩=some (.int .i64 x0)∧u.cell? ⟨w.heap.size,1,none⟩=some (.int .i64 x1)∧u.cell? ⟨w.heap.size,2,none⟩=some (.int .i64 x2)∧u.cell? ⟨w.heap.size,3,none⟩=some (.int .i64 x3)∧u.cell? ⟨w.heap.size,4,none⟩=some (.slice a n cap)∧u.cell? ⟨X,0,none⟩=some (.int .i64 x0)∧u.cell? ⟨X,1,none⟩=some (.int .i64 x1)∧u.cell? ⟨X,2,none⟩=some (.int .i64 x2)∧u.cell? ⟨X,3,none⟩=some (.int .i64 x3)∧u.cell? ⟨X,4,none⟩=some (.slice (some ⟨g4,0,none⟩) n n)) (by kernel_rfl) ?_
 show wpAnyH _ _ _ _ _ _ _ _ w6.drew
 have HS:w6.drew.cell? ⟨w.heap.size,0,none⟩=some (.int .i64 x0)∧w6.drew.cell? ⟨w.heap.size,1,none⟩=some (.int .i64 x1)∧w6.drew.cell? ⟨w.heap.size,2,none⟩=some (.int .i64 x2)∧w6.drew.cell? ⟨w.heap.size,3,none⟩=some (.int .i64 x3)∧w6.drew.cell? ⟨w.heap.size,4,none⟩=some (.slice a n cap)∧w6.drew.cell? ⟨X,0,none⟩=some (.int .i64 x0)∧w6.drew.cell? ⟨X,1,none⟩=some (.int .i64 x1)∧w6.drew.cell? ⟨X,2,none⟩=some (.int .i64 x2)∧w6.drew.cell? ⟨X,3,none⟩=some (.int .i64 x3)∧w6.drew.cell? ⟨X,4,none⟩=some (.slice (some ⟨g4,0,none⟩) n n):=⟨k0,k1,k2,k3,k4,j0,j1,j2,j3,j4⟩
 refine wpAnyH_take (i:=0) (v:=.agg #[.int .i64 x0,.int .i64 x1,.int .i64 x2,.int .i64 x3,.slice (some ⟨g4,0,none⟩) n n]) rfl (by kernel_rfl) (by kernel_rfl) (by kernel_rfl) (fun _ _ _ h=>h) (Or.inl ⟨by rfl,?_⟩) HS ?_
 ·intro w' hS
  obtain⟨s0,s1,s2,s3,s4,t0,t1,t2,t3,t4⟩:=hS
  go_simp
 simp only [Act.put,List.getElem_toArray,List.getElem_cons_zero,List.setIfInBounds_toArray,List.set_cons_zero,List.set_cons_succ]
 refine wpAnyH_take (i:=1) (v:=.agg #[.int .i64 x0,.int .i64 x1,.int .i64 x2,.int .i64 x3,.slice a n cap]) rfl (by kernel_rfl) (by kernel_rfl) (by kernel_rfl) (fun _ _ _ h=>h) (Or.inl ⟨by rfl,?_⟩) HS ?_
 ·intro w' hS
  obtain⟨s0,s1,s2,s3,s4,t0,t1,t2,t3,t4⟩:=hS
  go_simp
 simp only [Act.put,List.getElem_toArray,List.getElem_cons_zero,List.getElem_cons_succ,List.setIfInBounds_toArray,List.set_cons_zero,List.set_cons_succ]
 refine wpAnyH_ready (rs:=[2]) (by kernel_rfl) (by simp) ?_
 refine AllReadyH.cons rfl (fun K hK=>?_) AllReadyH.nil
 refine if_wanted (wanted_none rfl) ?_
 simp only [List.getElem_toArray,List.getElem_cons_zero,List.getElem_cons_succ]
 go_simp
 refine (hto w6.drew (by exact HC.out.called HB6.out.drew)).mono ?_
 rintro e w7 ⟨g7,rfl,hO7,hB7⟩
 have HC7:Hid (Below w6.heap.size w6 w7):=⟨hB7.1,hB7.2,hB7.3,hB7.4,hB7.5⟩
 have HX7:=hid_of ((HC7.out.block _ (block_lt HX6.out)).trans HX6.out)
 have HY7:=hid_of ((HC7.out.block _ (block_lt HY6.out)).trans HY6.out)
 have HO7:=hid_of (HO6.out.called HC7.out)
 have HP7:=hid_of hO7.came
 have HB7:=hid_of (bnext HB6.out HC7.out)
 clear hO7 hB7 HC7 HX6 HY6 HO6 HB6
 have m0:w7.cell? ⟨w.heap.size,0,none⟩=some (.int .i64 x0):=(cell_of_block HX7.out 0).trans rfl
 have m1:w7.cell? ⟨w.heap.size,1,none⟩=some (.int .i64 x1):=(cell_of_block HX7.out 1).trans rfl
 have m2:w7.cell? ⟨w.heap.size,2,none⟩=some (.int .i64 x2):=(cell_of_block HX7.out 2).trans rfl
 have m3:w7.cell? ⟨w.heap.size,3,none⟩=some (.int .i64 x3):=(cell_of_block HX7.out 3).trans rfl
 have m4:w7.cell? ⟨w.heap.size,4,none⟩=some (.slice a n cap):=(cell_of_block HX7.out 4).trans rfl
 have n0:w7.cell? ⟨X,0,none⟩=some (.int .i64 x0):=(cell_of_block HY7.out 0).trans rfl
 have n1:w7.cell? ⟨X,1,none⟩=some (.int .i64 x1):=(cell_of_block HY7.out 1).trans rfl
 have n2:w7.cell? ⟨X,2,none⟩=some (.int .i64 x2):=(cell_of_block HY7.out 2).trans rfl
 have n3:w7.cell? ⟨X,3,none⟩=some (.int .i64 x3):=(cell_of_block HY7.out 3).trans rfl
 have n4:w7.cell? ⟨X,4,none⟩=some (.slice (some ⟨g4,0,none⟩) n n):=(cell_of_block HY7.out 4).trans rfl
 refine hK.out _ _ ⟨m0,m1,m2,m3,m4,n0,n1,n2,n3,n4⟩ (fun HS2=>?_)
 clear hK K
 refine wpAnyH_ready (rs:=[3]) (by kernel_rfl) (by simp) ?_
 refine AllReadyH.cons rfl (fun K hK=>?_) AllReadyH.nil
 refine if_wanted (wanted_none rfl) ?_
 simp only [List.getElem_toArray,List.getElem_cons_zero,List.getElem_cons_succ]
 go_simp
 refine (eqRaster_same x0 x1 x2 x3 (some ⟨g4,0,none⟩) (some ⟨g7,0,none⟩) n n n f w7 HO7.out.came HP7.out hn).mono ?_
 rintro e w8 ⟨rfl,hB8⟩
 have HX8:=hid_of ((hB8.block _ (block_lt HX7.out)).trans HX7.out)
 have HY8:=hid_of ((hB8.block _ (block_lt HY7.out)).trans HY7.out)
 have HB8:=hid_of (bnext HB7.out hB8)
 clear hB8 HX7 HY7
 have p0:w8.cell? ⟨w.heap.size,0,none⟩=some (.int .i64 x0):=(cell_of_block HX8.out 0).trans rfl
 have p1:w8.cell? ⟨w.heap.size,1,none⟩=some (.int .i64 x1):=(cell_of_block HX8.out 1).trans rfl
 have p2:w8.cell? ⟨w.heap.size,2,none⟩=some (.int .i64 x2):=(cell_of_block HX8.out 2).trans rfl
 have p3:w8.cell? ⟨w.heap.size,3,none⟩=some (.int .i64 x3):=(cell_of_block HX8.out 3).trans rfl
 have p4:w8.cell? ⟨w.heap.size,4,none⟩=some (.slice a n cap):=(cell_of_block HX8.out 4).trans rfl
 have q0:w8.cell? ⟨X,0,none⟩=some (.int .i64 x0):=(cell_of_block HY8.out 0).trans rfl
 have q1:w8.cell? ⟨X,1,none⟩=some (.int .i64 x1):=(cell_of_block HY8.out 1).trans rfl
 have q2:w8.cell? ⟨X,2,none⟩=some (.int .i64 x2):=(cell_of_block HY8.out 2).trans rfl
 have q3:w8.cell? ⟨X,3,none⟩=some (.int .i64 x3):=(cell_of_block HY8.out 3).trans rfl
 have q4:w8.cell? ⟨X,4,none⟩=some (.slice (some ⟨g4,0,none⟩) n n):=(cell_of_block HY8.out 4).trans rfl
 refine hK.out _ _ ⟨p0,p1,p2,p3,p4,q0,q1,q2,q3,q4⟩ (fun HS3=>?_)
 clear hK K
 refine wpAnyH_take (i:=4) (v:=.bool false) rfl (by kernel_rfl) (by kernel_rfl) (by kernel_rfl) (fun _ _ _ h=>h) (Or.inl ⟨by rfl,?_⟩) HS3 ?_
 ·intro w' hS
  obtain⟨s0,s1,s2,s3,s4,t0,t1,t2,t3,t4⟩:=hS
  go_simp
 simp only [Act.put,List.getElem_toArray,List.getElem_cons_zero,List.getElem_cons_succ,List.setIfInBounds_toArray,List.set_cons_zero,List.set_cons_succ]
 refine wpAnyH_done (by kernel_rfl) ?_ _
 go_wp2_with fail
 go_ret
 exact⟨rfl,HB8.out⟩
theorem FnExactScanOf_big (x0 x1 x2 x3:Int) (a:Option Addr) (n cap:Nat) (w:World) (lace:Bool) (way:Int) (h:¬ n≤1048576) (hl:n≤maxLen):
  Calls Tryd.prog 7 #[.agg #[.int .i64 x0,.int .i64 x1,.int .i64 x2,.int .i64 x3,.slice a n cap],.bool lace,.int .i64 way] w fun e w'=>e=.returned (.bool true)∧Below w.heap.size w w':=by
 have hsz:=fun W=>szRaster_any x0 x1 x2 x3 a n cap 1048576 W (by omega) (by omega) hl
 rw[if_neg (by omega)] at hsz
 have HB:=hid_of (bstart w (.cells #[.int .i64 x0,.int .i64 x1,.int .i64 x2,.int .i64 x3,.slice a n cap] 41))
 go_enter Tryd.func7,Tryd.ntmps7
 go_wp2_with fail
 generalize w.alloc (.cells #[.int .i64 x0,.int .i64 x1,.int .i64 x2,.int .i64 x3,.slice a n cap] 41)=W1 at HB ⊢
 refine (hsz W1).mono ?_
 rintro e w1 ⟨rfl,hB1⟩
 have HB1:=hid_of (bnext HB.out hB1)
 clear hB1
 go_wp2_with fail
 go_ret
 exact⟨rfl,HB1.out⟩
theorem FnExactScanOf_over (hA:ScanOfAnswer) (x0 x1 x2 x3:Int) (a:Option Addr) (len cap:Nat) (zs:List Int) (lace:Bool) (way:Int) (w:World) (_:(Lit.int .i64 x0).wf=true) (_:(Lit.int .i64 x1).wf=true) (_:(Lit.int .i64 x2).wf=true) (_:(Lit.int .i64 x3).wf=true) (hr:IsRow .i64 w a len cap zs) (hw:(Lit.int .i64 way).wf=true) (hG:GridG w):
  Calls Tryd.prog 7 #[.agg #[.int .i64 x0,.int .i64 x1,.int .i64 x2,.int .i64 x3,.slice a len cap],.bool lace,.int .i64 way] w fun e w'=>e=.returned (.bool true)∧Below w.heap.size w w':=by
 obtain⟨hC,hm,_⟩:=came_of_row hr
 by_cases hn:len≤1048576
 ·have hlm:len≤maxLen:=by unfold maxLen; omega
  by_cases hok:ScanOk ⟨x0,x1,x2,x3,len,fun j=>zs.getD j 0⟩ way
  ·obtain⟨W,H,N,e0,e1,e2,hW,hH,hN,hrn,_⟩:=ras_parts hok.1
   have hx0:x0=(W:Int):=e0
   have hx1:x1=(H:Int):=e1
   have hx2:chan x2=(N:Int):=e2
   have hn':len=W * H * N:=hrn
   have h5:=five_range (depth_five hok.1.2.2.1)
   obtain⟨D,hD⟩:=Int.eq_ofNat_of_zero_le (show 0≤x3 by have h:1≤x3:=h5.1; omega)
   have hsv:scanV ⟨x0,x1,x2,x3,len,fun j=>zs.getD j 0⟩ lace way=scanT lace way W H N D (fun j=>zs.getD j 0):=by
    unfold scanV
    show scanT lace way x0.toNat x1.toNat (chan x2).toNat x3.toNat _=_
    rw[hx0,hx1,hx2,hD]
    rfl
   refine FnExactScanOf_at x0 x1 x2 x3 a len cap _ w lace way (scanV ⟨x0,x1,x2,x3,len,fun j=>zs.getD j 0⟩ lace way) true hC hn hG (fun V g h=>?_) (fun V g hV h=>(hA ⟨x0,x1,x2,x3,len,fun j=>zs.getD j 0⟩ _ len lace way V h hn (Nat.le_refl _) hlm hw hV).1 hok)
   rw[hsv]
   have hras:RasR x0 x1 x2 x3 len (fun j=>zs.getD j 0):=hok.1
   have hwy:=hok.2
   clear hok hsv hr hC hrn e0 e1 e2 h5
   subst hx0 hx1 hD hn'
   exact specScanOf_yes W H N D x2 _ _ _ lace way V hW hH hx2 hN h (Nat.le_refl _) hlm hras hwy
  ·refine FnExactScanOf_at x0 x1 x2 x3 a len cap _ w lace way ⟨#[]⟩ false hC hn hG (fun V g h=>specScanOf_no x0 x1 x2 x3 _ len len _ lace way V h hn hok) (fun V g hV h=>(hA ⟨x0,x1,x2,x3,len,fun j=>zs.getD j 0⟩ _ len lace way V h hn (Nat.le_refl _) hlm hw hV).2 hok)
 ·exact FnExactScanOf_big x0 x1 x2 x3 a len cap w lace way hn hm
end
section
open Go.RowKit Go.Joins RastMath
theorem beq_of1 {a b:Int} (h:a=b):(a == b)=true:=by simpa using h
theorem beq_no1 {a b:Int} (h:¬ a=b):(a == b)=false:=by simpa using h
def IdxPost (f:Nat→Int) (n:Nat) (x:Int) (w:World) (e:Ending) (w':World):Prop:=∃ z:Int,e=.returned (.int .i64 z)∧(0≤z↔∃ i,i < n∧f i=x)∧w'=w
set_option maxHeartbeats 800000 in
theorem index_any (a:Option Addr) (n cap:Nat) (f:Nat→Int) (x:Int) (w:World) (hC:Came w a n f) (hn:n≤1048576):
  Calls Tryd.prog 113 #[.slice a n cap,.int .i64 x] w (IdxPost f n x w):=by
 have HC:=hid_of hC
 clear hC
 go_enter Tryd.func113,Tryd.ntmps113
 go_wp2_with fail
 go_loop [8] (fun i=>∃ j:Nat,j≤n∧i=.int .i64 j∧Hid (∀ i,i < j→¬ f i=x)) (fun i=>n - (intOf i).toNat)
 case atStart=>exact⟨0,Nat.zero_le _,rfl,fun i hi=>absurd hi (Nat.not_lt_zero i)⟩
 case round=>
  obtain⟨j,hj,rfl,hok⟩:=hrel
  by_cases hlt:j < n
  ·rcases HC.out with h0 | ⟨g,off,rfl,hg,hc⟩
   ·omega
   ·have c0:=hc j hlt
    clear hc
    by_cases hin:f j=x
    ·have HK:Hid (∃ i,i < n∧f i=x):=⟨j,hlt,hin⟩
     have d0:(x == f j)=true:=beq_of1 hin.symm
     clear hin
     go_wp2_with fail
     go_ret
     exact⟨(j:Int),rfl,⟨fun _=>HK.out,fun _=>by omega⟩,rfl⟩
    ·have HN:Hid (∀ i,i < j+1→¬ f i=x):=fun i hi=>by
      by_cases e:i=j
      ·rw[e]; exact hin
      ·exact hok.out i (by omega)
     have d0:(x == f j)=false:=beq_no1 fun h=>hin h.symm
     clear hin
     go_wp2_with fail
     go_round
     case rel=>exact⟨j+1,by omega,by go_num,HN⟩
     case measure=>simp [intOf]; omega
  ·obtain rfl:j=n:=by omega
   go_wp2_with fail
   go_ret
   exact⟨-1,rfl,⟨fun h=>absurd h (by omega),fun ⟨i,hi,h⟩=>absurd h (hok.out i hi)⟩,rfl⟩
def ContPost (f:Nat→Int) (n:Nat) (x:Int) (w:World) (e:Ending) (w':World):Prop:=e=.returned (.bool (decide (∃ i,i < n∧f i=x)))∧w'=w
theorem contains_any (a:Option Addr) (n cap:Nat) (f:Nat→Int) (x:Int) (w:World) (hC:Came w a n f) (hn:n≤1048576):
  Calls Tryd.prog 104 #[.slice a n cap,.int .i64 x] w (ContPost f n x w):=by
 have h:=index_any a n cap f x w hC hn
 clear hC
 go_enter Tryd.func104,Tryd.ntmps104
 go_wp2_with fail
 refine h.mono ?_
 rintro e w1 ⟨z,rfl,hz,rfl⟩
 have hd:decide (0≤z)=decide (∃ i,i < n∧f i=x):=decide_eq_decide.mpr hz
 have HD:=hid_of hd
 clear hz hd h
 go_wp2_with fail
 go_ret
 refine⟨?_,rfl⟩
 rw[HD.out]
 rfl
def fiveL (i:Nat):Int:=[1,2,4,8,16].getD i 0
theorem five_has (d:Int):(∃ i,i < 5∧fiveL i=d)↔Five d:=by
 unfold Five fiveL
 constructor
 ·rintro⟨i,hi,rfl⟩
  match i,hi with
  | 0,_=>simp
  | 1,_=>simp
  | 2,_=>simp
  | 3,_=>simp
  | 4,_=>simp
  | k+5,hk=>omega
 ·rintro (rfl | rfl | rfl | rfl | rfl)
  ·exact⟨0,by omega,rfl⟩
  ·exact⟨1,by omega,rfl⟩
  ·exact⟨2,by omega,rfl⟩
  ·exact⟨3,by omega,rfl⟩
  ·exact⟨4,by omega,rfl⟩
theorem isDepth_any (d:Int) (w:World):Calls Tryd.prog 90 #[.int .i64 d] w fun e w'=>e=.returned (.bool (decide (Five d)))∧Below w.heap.size w w':=by
 have h:Hid (∀ W:World,W=w.alloc (.cells #[.int .i64 1,.int .i64 2,.int .i64 4,.int .i64 8,.int .i64 16] 3)→Calls Tryd.prog 104 #[.slice (some ⟨w.heap.size,0,none⟩) 5 5,.int .i64 d] W fun e w'=>e=.returned (.bool (decide (Five d)))∧w'=W):=by
  rintro W rfl
  have hc:Came (w.alloc (.cells #[.int .i64 1,.int .i64 2,.int .i64 4,.int .i64 8,.int .i64 16] 3)) (some ⟨w.heap.size,0,none⟩) 5 fiveL:=by
   refine .inr ⟨w.heap.size,0,rfl,by simp,fun j hj=>?_⟩
   rw[Nat.zero_add,cell_of_block (heap_alloc_new w _) j]
   match j,hj with
   | 0,_=>rfl
   | 1,_=>rfl
   | 2,_=>rfl
   | 3,_=>rfl
   | 4,_=>rfl
   | k+5,hk=>omega
  refine (contains_any (some ⟨w.heap.size,0,none⟩) 5 5 fiveL d _ hc (by omega)).mono ?_
  rintro e w' ⟨rfl,rfl⟩
  refine⟨?_,rfl⟩
  rw[decide_eq_decide.mpr (five_has d)]
 have hB:=hid_of (bstart w (.cells #[.int .i64 1,.int .i64 2,.int .i64 4,.int .i64 8,.int .i64 16] 3))
 generalize decide (Five d)=b at h ⊢
 go_enter Tryd.func90,Tryd.ntmps90
 go_wp2_with fail
 refine (h.out _ rfl).mono ?_
 rintro e w1 ⟨rfl,rfl⟩
 go_wp2_with fail
 go_ret
 exact⟨rfl,hB.out⟩
theorem isSide_any (n:Int) (w:World):Calls Tryd.prog 38 #[.int .i64 n] w fun e w'=>e=.returned (.bool (decide (SideR n)))∧w'=w:=by
 by_cases h1:1≤n
 ·have d1:decide (1≤n)=true:=decide_eq_true h1
  have hh:decide (SideR n)=decide (n≤24):=decide_eq_decide.mpr ⟨fun h=>h.2,fun h=>⟨h1,h⟩⟩
  rw[hh]
  clear h1 hh
  generalize hb:decide (n≤24)=b
  go_enter Tryd.func38,Tryd.ntmps38
  go_wp2_with fail
  go_ret
  exact⟨rfl,rfl⟩
 ·have d1:decide (1≤n)=false:=decide_eq_false h1
  rw[decide_eq_false (fun h:SideR n=>h1 h.1)]
  clear h1
  go_enter Tryd.func38,Tryd.ntmps38
  go_wp2_with fail
  go_ret
  exact⟨rfl,rfl⟩
theorem rowFor_any (c:Int) (w:World) (h1:0≤c) (h2:c≤100000000):
  Calls Tryd.prog 99 #[.int .i64 c] w fun e w'=>e=.returned (.int .i64 ((c+7) / 8))∧w'=w:=by
 go_enter Tryd.func99,Tryd.ntmps99
 go_wp2_with fail
 go_ret
 exact⟨rfl,rfl⟩
theorem implChannels (c:Int) (w:World):Calls Tryd.prog 80 #[.int .i64 c] w fun e w'=>e=.returned (.int .i64 (chan c))∧w'=w:=by
 unfold chan
 by_cases h0:c=0
 ·subst h0
  go_enter Tryd.func80,Tryd.ntmps80
  go_wp2_with fail
  go_ret
  exact⟨rfl,rfl⟩
 by_cases h3:c=3
 ·subst h3
  go_enter Tryd.func80,Tryd.ntmps80
  go_wp2_with fail
  go_ret
  exact⟨rfl,rfl⟩
 by_cases h2:c=2
 ·subst h2
  go_enter Tryd.func80,Tryd.ntmps80
  go_wp2_with fail
  go_ret
  exact⟨rfl,rfl⟩
 by_cases h4:c=4
 ·subst h4
  go_enter Tryd.func80,Tryd.ntmps80
  go_wp2_with fail
  go_ret
  exact⟨rfl,rfl⟩
 by_cases h6:c=6
 ·subst h6
  go_enter Tryd.func80,Tryd.ntmps80
  go_wp2_with fail
  go_ret
  exact⟨rfl,rfl⟩
 rw[if_neg (by omega),if_neg h2,if_neg h4,if_neg h6]
 have b0:=beq_no1 h0
 have b3:=beq_no1 h3
 have b2:=beq_no1 h2
 have b4:=beq_no1 h4
 have b6:=beq_no1 h6
 go_enter Tryd.func80,Tryd.ntmps80
 go_wp2_with fail
 go_ret
 exact⟨rfl,rfl⟩
theorem implDepth (c d:Int) (w:World):Calls Tryd.prog 48 #[.int .i64 c,.int .i64 d] w fun e w'=>e=.returned (.bool (decide (DepthR c d)))∧Below w.heap.size w w':=by
 by_cases h0:c=0
 ·subst h0
  have h:=isDepth_any d
  rw[show decide (Five d)=decide (DepthR 0 d) from decide_eq_decide.mpr ⟨fun h=>.inl ⟨rfl,h⟩,depth_five⟩] at h
  generalize decide (DepthR 0 d)=b at h ⊢
  go_enter Tryd.func48,Tryd.ntmps48
  go_wp2_with fail
  refine (h _).mono ?_
  rintro e w1 ⟨rfl,hB⟩
  have HB:=hid_of hB
  clear hB
  go_wp2_with fail
  go_ret
  exact⟨rfl,HB.out⟩
 by_cases h3:c=3
 ·subst h3
  by_cases h5:Five d
  ·have h:=isDepth_any d
   rw[decide_eq_true h5] at h
   have hh:decide (DepthR 3 d)=(d != 16):=by
    by_cases e:d=16
    ·subst e; decide
    ·rw[decide_eq_true (show DepthR 3 d from .inr (.inl ⟨rfl,h5,e⟩))]
     simp[e]
   rw[hh]
   clear h5 hh
   generalize hb:(d != 16)=b
   go_enter Tryd.func48,Tryd.ntmps48
   go_wp2_with fail
   refine (h _).mono ?_
   rintro e w1 ⟨rfl,hB⟩
   have HB:=hid_of hB
   clear hB
   go_wp2_with fail
   go_ret
   exact⟨rfl,HB.out⟩
  ·have h:=isDepth_any d
   rw[decide_eq_false h5] at h
   rw[decide_eq_false (fun h:DepthR 3 d=>h5 (depth_five h))]
   clear h5
   go_enter Tryd.func48,Tryd.ntmps48
   go_wp2_with fail
   refine (h _).mono ?_
   rintro e w1 ⟨rfl,hB⟩
   have HB:=hid_of hB
   clear hB
   go_wp2_with fail
   go_ret
   exact⟨rfl,HB.out⟩
 have hd:d=8∨d=16∨(¬ d=8∧¬ d=16):=by omega
 have hc:c=2∨c=4∨c=6∨(¬ c=2∧¬ c=4∧¬ c=6):=by omega
 rcases hc with rfl | rfl | rfl | ⟨h2,h4,h6⟩
 all_goals
  rcases hd with rfl | rfl | ⟨h8,h16⟩
 all_goals
  first
   | (rw [decide_eq_true (show DepthR _ _ by unfold DepthR Five; omega)])
   | (rw [decide_eq_false (show ¬ DepthR _ _ by unfold DepthR Five; omega)])
  try (have e0:=beq_no1 h0; have e3:=beq_no1 h3; have e2:=beq_no1 h2; have e4:=beq_no1 h4; have e6:=beq_no1 h6; clear h0 h3 h2 h4 h6)
  try (have g8:=beq_no1 h8; have g16:=beq_no1 h16; clear h8 h16)
  go_enter Tryd.func48,Tryd.ntmps48
  go_wp2_with fail
  go_ret
  exact⟨rfl,Below.refl _ _⟩
end
end Go.Proofs.YtcbbcadfolgioaaDoor
