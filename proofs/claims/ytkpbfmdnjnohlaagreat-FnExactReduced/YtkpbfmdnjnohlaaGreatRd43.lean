/-
  Texts of the proof, put together.
-/
import Derived.Test.YtkpbfmdnjnohlaaGreatRd14
import Derived.Test.YtkpbfmdnjnohlaaGreatRd04
namespace Go.Proofs.YtkpbfmdnjnohlaaGreat
open Go.RowKit Go.Joins OutMath PutMath RastMath HeadMath
def Four (v:Nat→Int) (w:World) (e:Ending) (w':World):Prop:=∃ g cap,e=.returned (.slice (some ⟨g,0,none⟩) 4 cap)∧(∀ k,k < 4→w'.cell? ⟨g,k,none⟩=some (.int .i64 (v k)))∧g < w'.heap.size∧Below w.heap.size w w'∧w.heap.size≤g
set_option maxRecDepth 100000 in
set_option maxHeartbeats 4000000 in
theorem specPix_3 (hw hh:Int) (d:Nat) (lace:Bool) (tn:Nat) (T:Nat→Rgb3) (cn:Nat) (C:Nat→Int) (rw' rh rc rd:Int) (sn kn:Nat) (ca ka:Option Addr) (g off gT oT tc cc sc kc:Nat) (A pl:Nat) (cv:Int) (w:World)
  (hg:g < w.heap.size) (hs:w.cell? ⟨g,off+A,none⟩=some (.int .i64 (pl:Int))) (hA:A+1≤sn) (hsn:sn≤1048576) (hcap:sn≤sc) (hgT:gT < w.heap.size) (ht0:w.cell? ⟨gT,oT+pl * 3,none⟩=some (.int .i64 (T pl).1)) (ht1:w.cell? ⟨gT,oT+pl * 3+1,none⟩=some (.int .i64 (T pl).2.1)) (ht2:w.cell? ⟨gT,oT+pl * 3+2,none⟩=some (.int .i64 (T pl).2.2)) (hpl:pl < tn)
  (hR:RgbR (T pl)) (hC:Came w ca cn C) (HCV:Hid (cv=if (pl:Int) < (cn:Int) then C pl else 255)) (hcv0:0≤cv) (hcv1:cv≤255):
  Calls Tryz.prog 56 #[.agg #[.int .i64 hw,.int .i64 hh,.int .i64 (d:Int),.int .i64 3,.bool lace,.slice (some ⟨gT,oT,none⟩) tn tc,.slice ca cn cc,.int .i64 rw',.int .i64 rh,.int .i64 rc,.int .i64 rd,.slice (some ⟨g,off,none⟩) sn sc,.slice ka kn kc],.int .i64 (A:Int)] w (Four (fun k=>257 * (if k=0 then (T pl).1 else if k=1 then (T pl).2.1 else if k=2 then (T pl).2.2 else cv)) w):=by
 have hch:=fun W=>specChannels 3 W
 rw[show chan 3=1 by decide] at hch
 obtain⟨x,hx⟩:∃ x,x=(T pl).1:=⟨_,rfl⟩
 obtain⟨y,hy⟩:∃ y,y=(T pl).2.1:=⟨_,rfl⟩
 obtain⟨z,hz⟩:∃ z,z=(T pl).2.2:=⟨_,rfl⟩
 rw[← hx] at ht0
 rw[← hy] at ht1
 rw[← hz] at ht2
 rw[← hx,← hy,← hz]
 have hR':(0≤x∧x≤255)∧(0≤y∧y≤255)∧(0≤z∧z≤255):=by rw [hx,hy,hz]; exact hR
 have wA:IntKind.i64.wrap ((A:Int)+1)=(A:Int)+1:=by rw [IntKind.wrap_i64]; omega
 have wA0:IntKind.i64.wrap (A:Int)=(A:Int):=by rw [IntKind.wrap_i64]; omega
 have b0:(0:Int)≤(A:Int):=by omega
 have b1:(A:Int)≤(A:Int)+1:=by omega
 have b2:(A:Int)+1≤(sc:Int):=by omega
 have b3:((A:Int)+1).toNat=A+1:=by omega
 have wx:IntKind.i64.wrap (257 * x)=257 * x:=by rw [IntKind.wrap_i64]; omega
 have wy:IntKind.i64.wrap (257 * y)=257 * y:=by rw [IntKind.wrap_i64]; omega
 have wz:IntKind.i64.wrap (257 * z)=257 * z:=by rw [IntKind.wrap_i64]; omega
 have wc:IntKind.i64.wrap (257 * cv)=257 * cv:=by rw [IntKind.wrap_i64]; omega
 have p0:(0:Int)≤(pl:Int):=by omega
 have p1:(pl:Int) < (tn:Int):=by omega
 have HC:=hid_of hC
 have H0:Hid (PBox w (w.alloc (.cells #[.int .i64 hw,.int .i64 hh,.int .i64 (d:Int),.int .i64 3,.bool lace,.slice (some ⟨gT,oT,none⟩) tn tc,.slice ca cn cc,.int .i64 rw',.int .i64 rh,.int .i64 rc,.int .i64 rd,.slice (some ⟨g,off,none⟩) sn sc,.slice ka kn kc] 37)) #[.int .i64 hw,.int .i64 hh,.int .i64 (d:Int),.int .i64 3,.bool lace,.slice (some ⟨gT,oT,none⟩) tn tc,.slice ca cn cc,.int .i64 rw',.int .i64 rh,.int .i64 rc,.int .i64 rd,.slice (some ⟨g,off,none⟩) sn sc,.slice ka kn kc]):=⟨heap_alloc_new w _,bstart w _⟩
 clear hx hy hz hR hR' hC
 go_enter Tryz.func56,Tryz.ntmps56
 go_wp2_with fail
 refine (hch _).mono ?_
 rintro e w1 ⟨rfl,q⟩
 obtain rfl:=q
 go_wp2_with fail
 have HS0:PBox w (w.alloc (.cells #[.int .i64 hw,.int .i64 hh,.int .i64 (d:Int),.int .i64 3,.bool lace,.slice (some ⟨gT,oT,none⟩) tn tc,.slice ca cn cc,.int .i64 rw',.int .i64 rh,.int .i64 rc,.int .i64 rd,.slice (some ⟨g,off,none⟩) sn sc,.slice ka kn kc] 37)).drew #[.int .i64 hw,.int .i64 hh,.int .i64 (d:Int),.int .i64 3,.bool lace,.slice (some ⟨gT,oT,none⟩) tn tc,.slice ca cn cc,.int .i64 rw',.int .i64 rh,.int .i64 rc,.int .i64 rd,.slice (some ⟨g,off,none⟩) sn sc,.slice ka kn kc]:=H0.out.called (bdraws (Below.refl _ _) 1)
 clear H0
 refine wp_region_held (S:=fun u=>PBox w u #[.int .i64 hw,.int .i64 hh,.int .i64 (d:Int),.int .i64 3,.bool lace,.slice (some ⟨gT,oT,none⟩) tn tc,.slice ca cn cc,.int .i64 rw',.int .i64 rh,.int .i64 rc,.int .i64 rd,.slice (some ⟨g,off,none⟩) sn sc,.slice ka kn kc]) (by kernel_rfl) ?_
 show wpAnyH _ _ _ _ _ _ _ _ (w.alloc _).drew
 generalize (w.alloc _).drew=u0 at HS0 ⊢
 refine zqt 0 (.pointer (some ⟨w.heap.size,5,none⟩)) rfl ?_ HS0 ?_
 ·intro w' _
  go_simp
 simp only [Act.put,zga,zgb,zsa,zsb,zsc]
 refine zqt 1 (.slice (some ⟨gT,oT,none⟩) tn tc) rfl ?_ HS0 ?_
 ·intro w' hS
  obtain⟨b_0,b_1,b_2,b_3,b_4,b_5,b_6,b_7,b_8,b_9,b_10,b_11,b_12⟩:=zqc hS.1; have bl:=block_lt hS.1
  go_simp
 simp only [Act.put,zga,zgb,zgc,zsa,zsb,zsc]
 refine zqt 2 (.slice (some ⟨g,off+A,none⟩) 1 (sc - A)) rfl ?_ HS0 ?_
 ·intro w' _
  go_simp
 simp only [Act.put,zga,zgb,zgc,zsa,zsb,zsc]
 refine zqt 3 (.pointer (some ⟨g,off+A,none⟩)) rfl ?_ HS0 ?_
 ·intro w' _
  go_simp
 simp only [Act.put,zga,zgb,zgc,zsa,zsb,zsc]
 refine zqt 4 (.int .i64 (pl:Int)) rfl ?_ HS0 ?_
 ·intro w' hS
  have c0:=(hS.2.cell (p:=⟨g,off+A,none⟩) hg).trans hs
  go_simp
 simp only [Act.put,zga,zgb,zgc,zsa,zsb,zsc]
 refine zqt 5 (.pointer (some ⟨gT,oT+pl * 3,none⟩)) rfl ?_ HS0 ?_
 ·intro w' _
  go_simp
 simp only [Act.put,zga,zgb,zgc,zsa,zsb,zsc]
 refine zqt 6 (.agg #[.int .i64 x,.int .i64 y,.int .i64 z]) rfl ?_ HS0 ?_
 ·intro w' hS
  have t0:=(hS.2.cell (p:=⟨gT,oT+pl * 3,none⟩) hgT).trans ht0; have t1:=(hS.2.cell (p:=⟨gT,oT+pl * 3+1,none⟩) hgT).trans ht1; have t2:=(hS.2.cell (p:=⟨gT,oT+pl * 3+2,none⟩) hgT).trans ht2
  go_simp
 simp only [Act.put,zga,zgb,zgc,zsa,zsb,zsc]
 refine zqr 7 rfl (fun K1 hK=>?_)
 refine if_wanted (wanted_none rfl) ?_
 simp only [zga,zgb,zgc]
 go_simp
 refine hK.out _ _ (HS0.called (bstart u0 (.cells #[.int .i64 0,.int .i64 0,.int .i64 0] 74))) (fun HS1=>?_)
 clear hK
 have hblk:(u0.alloc (.cells #[.int .i64 0,.int .i64 0,.int .i64 0] 74)).heap[u0.heap.size]?=some (.cells #[.int .i64 0,.int .i64 0,.int .i64 0] 74 (0,0)):=heap_alloc_new u0 _
 have hly:=block_lt HS0.1
 generalize u0.alloc (.cells #[.int .i64 0,.int .i64 0,.int .i64 0] 74)=u1 at HS1 hblk ⊢
 have z0:=(cell_of_block hblk 0).trans rfl
 have z1:=(cell_of_block hblk 1).trans rfl
 have z2:=(cell_of_block hblk 2).trans rfl
 have zf:∀ k,u1.frozen? ⟨u0.heap.size,k,none⟩=false:=unfrozen_of_block hblk
 have zl:=block_lt hblk
 have H2:Hid ((((u1.setCell ⟨u0.heap.size,0,none⟩ (.int .i64 x)).setCell ⟨u0.heap.size,1,none⟩ (.int .i64 y)).setCell ⟨u0.heap.size,2,none⟩ (.int .i64 z)).heap[u0.heap.size]?=some (.cells #[.int .i64 x,.int .i64 y,.int .i64 z] 74 (0,0))∧PBox w (((u1.setCell ⟨u0.heap.size,0,none⟩ (.int .i64 x)).setCell ⟨u0.heap.size,1,none⟩ (.int .i64 y)).setCell ⟨u0.heap.size,2,none⟩ (.int .i64 z)) #[.int .i64 hw,.int .i64 hh,.int .i64 (d:Int),.int .i64 3,.bool lace,.slice (some ⟨gT,oT,none⟩) tn tc,.slice ca cn cc,.int .i64 rw',.int .i64 rh,.int .i64 rc,.int .i64 rd,.slice (some ⟨g,off,none⟩) sn sc,.slice ka kn kc]):=by
  refine⟨by simp [World.setCell,Array.getElem?_modify,hblk],?_⟩
  have hne:w.heap.size≠u0.heap.size:=by omega
  refine⟨?_,((HS1.2.setCell (p:=⟨u0.heap.size,0,none⟩) (by show w.heap.size≤u0.heap.size; omega) _).setCell (p:=⟨u0.heap.size,1,none⟩) (by show w.heap.size≤u0.heap.size; omega) _).setCell (p:=⟨u0.heap.size,2,none⟩) (by show w.heap.size≤u0.heap.size; omega) _⟩
  rw[Below.heap_setCell _ _ _ _ hne,Below.heap_setCell _ _ _ _ hne,Below.heap_setCell _ _ _ _ hne]
  exact HS1.1
 refine zqr 8 rfl (fun K1 hK=>?_)
 refine if_wanted (wanted_none rfl) ?_
 simp only [zga,zgb,zgc]
 go_simp
 refine hK.out _ _ H2.out.2 (fun HS2=>?_)
 clear hK
 refine wpAnyH_done (by kernel_rfl) ?_ _
 generalize (((u1.setCell ⟨u0.heap.size,0,none⟩ (.int .i64 x)).setCell ⟨u0.heap.size,1,none⟩ (.int .i64 y)).setCell ⟨u0.heap.size,2,none⟩ (.int .i64 z))=w2 at H2 ⊢
 clear HS2 HS1 hblk z0 z1 z2 zf zl
 have HXw:Hid (w.heap.size < u0.heap.size):=hly
 clear HS0 hly
 generalize u0.heap.size=X at H2 HXw ⊢
 have c0:=(H2.out.2.2.cell (p:=⟨g,off+A,none⟩) hg).trans hs
 have l0:=block_lt H2.out.2.1
 have l1:=block_lt H2.out.1
 have g1:g < w2.heap.size:=Nat.lt_of_lt_of_le hg H2.out.2.2.size
 have a6:=(cell_of_block H2.out.2.1 6).trans rfl
 have x0:=(cell_of_block H2.out.1 0).trans rfl
 have x1:=(cell_of_block H2.out.1 1).trans rfl
 have x2:=(cell_of_block H2.out.1 2).trans rfl
 have HB:=hid_of H2.out.2.2
 by_cases hv:pl < cn
 ·have hcv:cv=C pl:=by rw [HCV.out,if_pos (by omega)]
  rcases HC.out.called HB.out with h0 | ⟨gc,oc,rfl,hgc,hcc⟩
  ·omega
  have c1:=hcc pl hv
  rw[← hcv] at c1
  have d1:decide ((pl:Int) < (cn:Int))=true:=decide_eq_true (by omega)
  have d2:decide (pl < cn)=true:=decide_eq_true hv
  have p2':(pl:Int) < (cn:Int):=by omega
  clear hcc hcv H2
  go_wp2_with fail
  go_quiet (fail)
  go_wp2_with fail
  go_quiet (fail)
  go_wp2_with fail
  go_ret
  refine⟨_,4,rfl,fun k hk=>?_,by simp,bal (bdraws HB.out _) _,HB.out.size⟩
  have:k=0∨k=1∨k=2∨k=3:=by omega
  rcases this with rfl | rfl | rfl | rfl <;> exact (cell_of_block (heap_alloc_new _ _) _).trans rfl
 ·have hcv:cv=255:=by rw [HCV.out,if_neg (by omega)]
  subst hcv
  have d1:decide ((pl:Int) < (cn:Int))=false:=decide_eq_false (by omega)
  have d2:decide (pl < cn)=false:=decide_eq_false hv
  clear HCV H2 HC
  go_wp2_with fail
  go_quiet (fail)
  go_wp2_with fail
  go_ret
  refine⟨_,4,rfl,fun k hk=>?_,by simp,bal (bdraws HB.out _) _,HB.out.size⟩
  have:k=0∨k=1∨k=2∨k=3:=by omega
  rcases this with rfl | rfl | rfl | rfl <;> exact (cell_of_block (heap_alloc_new _ _) _).trans rfl
theorem info_int18:(Tryz.prog.info? 3).map (fun i=>(i.zero,i.size,i.bytes))=some (some (.int .i64 0),1,8):=by kernel_rfl
def clB (cn:Nat) (C s:Nat→Int) (j:Nat):Bool:=decide (0 < cn) && (List.range j).all fun i=>decide (C i=s i)
theorem clB_next (cn:Nat) (C s:Nat→Int) (j:Nat):clB cn C s (j+1)=(clB cn C s j && decide (C j=s j)):=by
 unfold clB
 rw[List.range_succ,List.all_append]
 simp[Bool.and_assoc]
def SpI (w:World) (A:Array Value) (gv cap:Nat) (V:Nat→Int) (j:Nat) (X:World):Prop:=PBox w X A∧IOwn X (w.heap.size+1) gv j cap V
theorem SpI.called {w X Y:World} {A:Array Value} {gv cap j:Nat} {V:Nat→Int} (h:SpI w A gv cap V j X) (hb:Below X.heap.size X Y):SpI w A gv cap V j Y:=⟨h.1.called hb,h.2.called hb⟩
set_option maxRecDepth 100000 in
set_option maxHeartbeats 4000000 in
theorem specPix_2 (hw hh:Int) (d:Nat) (lace:Bool) (tn cn:Nat) (C:Nat→Int) (rw' rh rc rd:Int) (sn kn:Nat) (ta ca ka:Option Addr) (g off tc cc sc kc:Nat) (B A:Nat) (s:Nat→Int) (w:World)
  (hg:g < w.heap.size) (hs:∀ i,i < 3→w.cell? ⟨g,off+A+i,none⟩=some (.int .i64 (s i))∧0≤s i∧s i≤65535) (hA:A+3≤sn) (hAB:A=B * 3) (hsn:sn≤1048576) (hcap:sn≤sc) (hd:Five (d:Int)) (hC:Came w ca cn C) (hcn:cn=0∨cn=3) (V:Nat→Int) (hV:V=fun i=>s i * mulD d):
  Calls Tryz.prog 56 #[.agg #[.int .i64 hw,.int .i64 hh,.int .i64 (d:Int),.int .i64 2,.bool lace,.slice ta tn tc,.slice ca cn cc,.int .i64 rw',.int .i64 rh,.int .i64 rc,.int .i64 rd,.slice (some ⟨g,off,none⟩) sn sc,.slice ka kn kc],.int .i64 (B:Int)] w (Four (fun k=>if k < 3 then s k * mulD d else if clB cn C s 3 then 0 else 65535) w):=by
 have hch:=fun W=>specChannels 2 W
 rw[show chan 2=3 by decide] at hch
 have hpw:=fun W=>pow_any d W (by have:=five_range hd; omega)
 have HM:=hid_of (mulD_five hd)
 have HW:=hid_of (fun x=>mulD_way hd x)
 obtain⟨M,hM⟩:∃ M,M=p2 d:=⟨_,rfl⟩
 rw[← hM] at hpw HM HW
 have hM2:2≤M∧M≤65536:=by
  have h1:=HM.out.2.2.2
  have h2:=p2_le (show d≤16 by have:=five_range hd; omega)
  rw[show p2 16=65536 by decide +kernel,← hM] at h2
  omega
 have w7:IntKind.i64.wrap (M - 1)=M - 1:=by rw [IntKind.wrap_i64]; omega
 have n0:((M - 1:Int) == 0)=false:=by simp only [beq_eq_false_iff_ne,ne_eq]; omega
 have n0p:¬ (M - 1:Int)=0:=by omega
 have wB:IntKind.i64.wrap ((B:Int) * 3)=(A:Int):=by rw [IntKind.wrap_i64]; omega
 have wB0:IntKind.i64.wrap (B:Int)=(A:Int)∨True:=.inr trivial
 have wA:IntKind.i64.wrap ((A:Int)+3)=(A:Int)+3:=by rw [IntKind.wrap_i64]; omega
 have b0:(0:Int)≤(A:Int):=by omega
 have b1:(A:Int)≤(A:Int)+3:=by omega
 have b2:(A:Int)+3≤(sc:Int):=by omega
 have b3:((A:Int)+3).toNat=A+3:=by omega
 have HC:=hid_of hC
 have HS:=hid_of hs
 have HV:=hid_of hV
 have HCN:=hid_of hcn
 have H0:Hid (PBox w (w.alloc (.cells #[.int .i64 hw,.int .i64 hh,.int .i64 (d:Int),.int .i64 2,.bool lace,.slice ta tn tc,.slice ca cn cc,.int .i64 rw',.int .i64 rh,.int .i64 rc,.int .i64 rd,.slice (some ⟨g,off,none⟩) sn sc,.slice ka kn kc] 37)) #[.int .i64 hw,.int .i64 hh,.int .i64 (d:Int),.int .i64 2,.bool lace,.slice ta tn tc,.slice ca cn cc,.int .i64 rw',.int .i64 rh,.int .i64 rc,.int .i64 rd,.slice (some ⟨g,off,none⟩) sn sc,.slice ka kn kc]):=⟨heap_alloc_new w _,bstart w _⟩
 have hc0:decide ((0:Int) < (cn:Int))=clB cn C s 0:=by simp [clB]
 have hc0':decide (0 < cn)=clB cn C s 0:=by simp [clB]
 clear hM hV hC hs hcn wB0 hAB
 go_enter Tryz.func56,Tryz.ntmps56
 go_wp2_with fail
 refine (hch _).mono ?_
 rintro e w1 ⟨rfl,q⟩
 obtain rfl:=q
 go_wp2_with fail
 refine (hpw _).mono ?_
 rintro e w2 ⟨rfl,q⟩
 obtain rfl:=q
 go_wp2_with fail
 have H1:Hid (SpI w #[.int .i64 hw,.int .i64 hh,.int .i64 (d:Int),.int .i64 2,.bool lace,.slice ta tn tc,.slice ca cn cc,.int .i64 rw',.int .i64 rh,.int .i64 rc,.int .i64 rd,.slice (some ⟨g,off,none⟩) sn sc,.slice ka kn kc] (w.heap.size+1) 0 V 0 ((w.alloc (.cells #[.int .i64 hw,.int .i64 hh,.int .i64 (d:Int),.int .i64 2,.bool lace,.slice ta tn tc,.slice ca cn cc,.int .i64 rw',.int .i64 rh,.int .i64 rc,.int .i64 rd,.slice (some ⟨g,off,none⟩) sn sc,.slice ka kn kc] 37)).alloc (.cells #[] 3))):=by
  refine⟨H0.out.called (bstart _ _),0,#[],(0,0),rfl,Nat.le_refl _,?_,.inl rfl,Nat.le_refl _,Nat.zero_le _,rfl,rfl⟩
  show ((w.heap.push _).push _)[w.heap.size+1]?=_
  rw[Array.getElem?_push,if_pos (by simp)]
 clear H0 hpw hch wB wA b1 b2 b3 hc0 hc0'
 go_loopw [10,11,12] (fun v b i X=>∃ j gv cap:Nat,j≤3∧v=.slice (some ⟨gv,0,none⟩) j cap∧b=.bool (clB cn C s j)∧i=.int .i64 (j:Int)∧Hid (SpI w #[.int .i64 hw,.int .i64 hh,.int .i64 (d:Int),.int .i64 2,.bool lace,.slice ta tn tc,.slice ca cn cc,.int .i64 rw',.int .i64 rh,.int .i64 rc,.int .i64 rd,.slice (some ⟨g,off,none⟩) sn sc,.slice ka kn kc] gv cap V j X)) (fun _ _ i _=>3 - (intOf i).toNat)
 case atStart=>exact⟨0,w.heap.size+1,0,Nat.zero_le _,rfl,rfl,rfl,H1⟩
 case round=>
  clear H1
  obtain⟨j,gv,cap,hj,rfl,rfl,rfl,hI⟩:=hrel
  by_cases hlt:j < 3
  ·obtain⟨hsj,hs0,hs1⟩:=HS.out j hlt
   have c0:=(hI.out.1.2.cell (p:=⟨g,off+A+j,none⟩) hg).trans hsj
   have hg2:g < wr.heap.size:=Nat.lt_of_lt_of_le hg hI.out.1.2.size
   have hVj:V j=s j * mulD d:=by rw [HV.out]
   have q1:(s j * 65535).tdiv (M - 1)=V j:=by
    rw[Int.tdiv_eq_ediv_of_nonneg (by omega),HW.out,hVj]
   have hVb:0≤V j∧V j≤65535 * 65535:=by
    rw[hVj]
    exact⟨Int.mul_nonneg hs0 (by have:=HM.out.1; omega),Int.mul_le_mul hs1 HM.out.2.1 (by have:=HM.out.1; omega) (by omega)⟩
   have wm:IntKind.i64.wrap (s j * 65535)=s j * 65535:=by rw [IntKind.wrap_i64]; omega
   have wv:IntKind.i64.wrap (V j)=V j:=by rw [IntKind.wrap_i64]; omega
   have hj0:(0:Int)≤(j:Int):=by omega
   have hj1:(j:Int) < 3:=by omega
   have dj:decide ((j:Int) < 3)=true:=decide_eq_true hj1
   have hnx:=clB_next cn C s j
   have HNX:=hid_of hnx
   have HFA:Hid (fints V j ++ [.int .i64 (V j)]=fints V (j+1)):=by
    show _=_
    unfold fints
    rw[List.range_succ,List.map_append]
    rfl
   obtain⟨x,hx⟩:∃ x,x=s j:=⟨_,rfl⟩
   obtain⟨y,hy⟩:∃ y,y=V j:=⟨_,rfl⟩
   rw[← hx] at c0 q1 wm
   rw[← hy] at q1 wv HFA
   have HX:=hid_of hx
   clear hx hy hVj hVb hs0 hs1 hsj hnx
   obtain⟨i0,hi0,hz0,hz1,hz2⟩:=info_parts info_int18
   have hl1:(fints V j).length+1≤maxLen∧((fints V j).length+1) * 8≤140737488355328:=by rw [fints_length]; unfold maxLen; omega
   go_wp2_with (at_builtin; refine wpList_append1 rfl _ _ 25 rfl i0 (.int .i64 0) 8 Tryz.underlying25 hi0 hz0 hz1 hz2 rfl rfl (hI.out.2.alloc _) ⟨wr.heap.size,0,none⟩ 1 (.int .i64 y) rfl ?c1 rfl rfl hl1.1 hl1.2 ?_)
   case c1=>simp
   ·intro g2 u2 w3 hO3 hg3 hgr3
    obtain⟨cap2,hu2⟩:=hO3.form
    rw[HFA.out] at hO3 hu2
    rw[fints_length] at hu2
    subst hu2
    have hgv:=hI.out.2.base_le
    have HI3:Hid (SpI w #[.int .i64 hw,.int .i64 hh,.int .i64 (d:Int),.int .i64 2,.bool lace,.slice ta tn tc,.slice ca cn cc,.int .i64 rw',.int .i64 rh,.int .i64 rc,.int .i64 rd,.slice (some ⟨g,off,none⟩) sn sc,.slice ka kn kc] g2 cap2 V (j+1) w3):=by
     refine⟨⟨(hgr3.block _ (by have:=block_lt hI.out.1.1; simp; omega) (fun e=>by cases e; omega)).trans (((bstart wr _).block _ (block_lt hI.out.1.1)).trans hI.out.1.1),(bal hI.out.1.2 _).grown hgr3 (by have:=hI.out.1.2.size; simp; omega) (fun q hq=>by cases hq; omega)⟩,?_⟩
     show Own 3 w3 (w.heap.size+1) g2 (.slice (some ⟨g2,0,none⟩) (j+1) cap2) (fints V (j+1))
     exact hO3
    have k0:=(HI3.out.1.2.cell (p:=⟨g,off+A+j,none⟩) hg).trans (HS.out j hlt).1
    rw[← HX.out] at k0
    have kl:=block_lt HI3.out.1.1
    have kg:g < w3.heap.size:=Nat.lt_of_lt_of_le hg HI3.out.1.2.size
    have a6:=(cell_of_block HI3.out.1.1 6).trans rfl
    clear hO3 hg3 hgr3 hgv c0 hg2 hI hi0 hz0 hz1 hz2 q1 wm wv
    generalize hq:clB cn C s j=cb
    have HQ:=hid_of hq
    clear hq
    cases cb
    ·have HN:Hid (clB cn C s (j+1)=false):=by show _=_; rw [HNX.out,HQ.out]; rfl
     go_wp2_with fail
     go_quiet (fail)
     have HI4:=hid_of (HI3.out.called (bdraws (Below.refl _ _) nq))
     clear HI3 k0 kl kg a6
     go_wp2_with fail
     go_roundw
     case rel=>exact⟨j+1,g2,cap2,by omega,rfl,by rw [HN.out],by go_num,HI4⟩
     case measure=>simp [intOf]; omega
    ·have hcnn:cn=3:=by
      rcases HCN.out with h | h
      ·have:=HQ.out
       unfold clB at this
       rw[h] at this
       simp at this
      ·exact h
     rcases HC.out.called HI3.out.1.2 with h0 | ⟨gc,oc,rfl,hgc,hcc⟩
     ·omega
     have c1:=hcc j (by omega)
     have r1:(j:Int) < (cn:Int):=by omega
     have HN:Hid (clB cn C s (j+1)=decide (C j=x)):=by show _=_; rw [HNX.out,HQ.out,HX.out]; rfl
     obtain⟨cj,hcj⟩:∃ cj,cj=C j:=⟨_,rfl⟩
     rw[← hcj] at c1 HN
     clear hcc hcj hcnn
     by_cases he:cj=x
     ·have de:(cj == x)=true:=by simpa using he
      have HN2:Hid (clB cn C s (j+1)=true):=by show _=_; rw [HN.out,decide_eq_true he]
      clear he HN
      go_wp2_with fail
      go_quiet (fail)
      have HI4:=hid_of (HI3.out.called (bdraws (Below.refl _ _) nq))
      clear HI3 k0 kl kg a6 c1
      go_wp2_with fail
      go_roundw
      case rel=>exact⟨j+1,g2,cap2,by omega,rfl,by rw [HN2.out],by go_num,HI4⟩
      case measure=>simp [intOf]; omega
     ·have de:(cj == x)=false:=by simpa using he
      have HN2:Hid (clB cn C s (j+1)=false):=by show _=_; rw [HN.out,decide_eq_false he]
      clear he HN
      go_wp2_with fail
      go_quiet (fail)
      have HI4:=hid_of (HI3.out.called (bdraws (Below.refl _ _) nq))
      clear HI3 k0 kl kg a6 c1
      go_wp2_with fail
      go_roundw
      case rel=>exact⟨j+1,g2,cap2,by omega,rfl,by rw [HN2.out],by go_num,HI4⟩
      case measure=>simp [intOf]; omega
  ·obtain rfl:j=3:=by omega
   have dj:decide (((3:Nat):Int) < 3)=false:=by decide
   have HI:=hid_of hI.out
   clear hI hj hlt
   cases hq:clB cn C s 3
   ·go_wp2_with fail
    have HS0:SpI w #[.int .i64 hw,.int .i64 hh,.int .i64 (d:Int),.int .i64 2,.bool lace,.slice ta tn tc,.slice ca cn cc,.int .i64 rw',.int .i64 rh,.int .i64 rc,.int .i64 rd,.slice (some ⟨g,off,none⟩) sn sc,.slice ka kn kc] gv cap V 3 wr.drew:=HI.out.called (bdraws (Below.refl _ _) 1)
    refine wp_region_held (S:=SpI w #[.int .i64 hw,.int .i64 hh,.int .i64 (d:Int),.int .i64 2,.bool lace,.slice ta tn tc,.slice ca cn cc,.int .i64 rw',.int .i64 rh,.int .i64 rc,.int .i64 rd,.slice (some ⟨g,off,none⟩) sn sc,.slice ka kn kc] gv cap V 3) (by kernel_rfl) ?_
    show wpAnyH _ _ _ _ _ _ _ _ wr.drew
    clear HI
    generalize wr.drew=u0 at HS0 ⊢
    refine zqt 0 (.slice (some ⟨gv,0,none⟩) 3 cap) rfl ?_ HS0 ?_
    ·intro w' _
     go_simp
    simp only [Act.put,zga,zgb,zsa,zsb,zsc]
    refine zqt 1 (.pointer (some ⟨gv,0,none⟩)) rfl ?_ HS0 ?_
    ·intro w' _
     go_simp
    simp only [Act.put,zga,zgb,zgc,zsa,zsb,zsc]
    refine zqt 2 (.int .i64 (V 0)) rfl ?_ HS0 ?_
    ·intro w' hS
     have c0:=hS.2.cell 0 (by omega)
     go_simp
    simp only [Act.put,zga,zgb,zgc,zsa,zsb,zsc]
    refine zqt 3 (.slice (some ⟨gv,0,none⟩) 3 cap) rfl ?_ HS0 ?_
    ·intro w' _
     go_simp
    simp only [Act.put,zga,zgb,zgc,zsa,zsb,zsc]
    refine zqt 4 (.pointer (some ⟨gv,1,none⟩)) rfl ?_ HS0 ?_
    ·intro w' _
     go_simp
    simp only [Act.put,zga,zgb,zgc,zsa,zsb,zsc]
    refine zqt 5 (.int .i64 (V 1)) rfl ?_ HS0 ?_
    ·intro w' hS
     have c0:=hS.2.cell 1 (by omega)
     go_simp
    simp only [Act.put,zga,zgb,zgc,zsa,zsb,zsc]
    refine zqt 6 (.slice (some ⟨gv,0,none⟩) 3 cap) rfl ?_ HS0 ?_
    ·intro w' _
     go_simp
    simp only [Act.put,zga,zgb,zgc,zsa,zsb,zsc]
    refine zqt 7 (.pointer (some ⟨gv,2,none⟩)) rfl ?_ HS0 ?_
    ·intro w' _
     go_simp
    simp only [Act.put,zga,zgb,zgc,zsa,zsb,zsc]
    refine zqt 8 (.int .i64 (V 2)) rfl ?_ HS0 ?_
    ·intro w' hS
     have c0:=hS.2.cell 2 (by omega)
     go_simp
    simp only [Act.put,zga,zgb,zgc,zsa,zsb,zsc]
    refine zqt 9 (.int .i64 65535) rfl ?_ HS0 ?_
    ·intro w' _
     go_simp
    simp only [Act.put,zga,zgb,zgc,zsa,zsb,zsc]
    refine zqr 10 rfl (fun K1 hK=>?_)
    refine if_wanted (wanted_none rfl) ?_
    simp only [zga,zgb,zgc]
    go_simp
    refine hK.out _ _ (HS0.called (bstart u0 (.cells #[.int .i64 (V 0),.int .i64 (V 1),.int .i64 (V 2),.int .i64 65535] 3))) (fun HS1=>?_)
    clear hK
    refine zqt 11 (.slice (some ⟨u0.heap.size,0,none⟩) 4 4) rfl ?_ HS1 ?_
    ·intro w' _
     go_simp
    simp only [Act.put,zga,zgb,zgc,zsa,zsb,zsc]
    refine wpAnyH_done (by kernel_rfl) ?_ _
    have hblk:(u0.alloc (.cells #[.int .i64 (V 0),.int .i64 (V 1),.int .i64 (V 2),.int .i64 65535] 3)).heap[u0.heap.size]?=some (.cells #[.int .i64 (V 0),.int .i64 (V 1),.int .i64 (V 2),.int .i64 65535] 3 (0,0)):=heap_alloc_new u0 _
    have HF:=hid_of (And.intro hblk HS1.1.2)
    have HLE:Hid (w.heap.size≤u0.heap.size):=HS0.1.2.size
    clear hblk HS0 HS1
    generalize u0.alloc (.cells #[.int .i64 (V 0),.int .i64 (V 1),.int .i64 (V 2),.int .i64 65535] 3)=u1 at HF ⊢
    go_wp2_with fail
    all_goals
     go_ret
     refine⟨u0.heap.size,4,rfl,fun k hk=>?_,block_lt HF.out.1,HF.out.2,HLE.out⟩
     rw[cell_of_block HF.out.1 k]
     have:k=0∨k=1∨k=2∨k=3:=by omega
     rcases this with rfl | rfl | rfl | rfl <;> simp [HV.out]
   ·go_wp2_with fail
    have HS0:SpI w #[.int .i64 hw,.int .i64 hh,.int .i64 (d:Int),.int .i64 2,.bool lace,.slice ta tn tc,.slice ca cn cc,.int .i64 rw',.int .i64 rh,.int .i64 rc,.int .i64 rd,.slice (some ⟨g,off,none⟩) sn sc,.slice ka kn kc] gv cap V 3 wr.drew:=HI.out.called (bdraws (Below.refl _ _) 1)
    refine wp_region_held (S:=SpI w #[.int .i64 hw,.int .i64 hh,.int .i64 (d:Int),.int .i64 2,.bool lace,.slice ta tn tc,.slice ca cn cc,.int .i64 rw',.int .i64 rh,.int .i64 rc,.int .i64 rd,.slice (some ⟨g,off,none⟩) sn sc,.slice ka kn kc] gv cap V 3) (by kernel_rfl) ?_
    show wpAnyH _ _ _ _ _ _ _ _ wr.drew
    clear HI
    generalize wr.drew=u0 at HS0 ⊢
    refine zqt 0 (.slice (some ⟨gv,0,none⟩) 3 cap) rfl ?_ HS0 ?_
    ·intro w' _
     go_simp
    simp only [Act.put,zga,zgb,zsa,zsb,zsc]
    refine zqt 1 (.pointer (some ⟨gv,0,none⟩)) rfl ?_ HS0 ?_
    ·intro w' _
     go_simp
    simp only [Act.put,zga,zgb,zgc,zsa,zsb,zsc]
    refine zqt 2 (.int .i64 (V 0)) rfl ?_ HS0 ?_
    ·intro w' hS
     have c0:=hS.2.cell 0 (by omega)
     go_simp
    simp only [Act.put,zga,zgb,zgc,zsa,zsb,zsc]
    refine zqt 3 (.slice (some ⟨gv,0,none⟩) 3 cap) rfl ?_ HS0 ?_
    ·intro w' _
     go_simp
    simp only [Act.put,zga,zgb,zgc,zsa,zsb,zsc]
    refine zqt 4 (.pointer (some ⟨gv,1,none⟩)) rfl ?_ HS0 ?_
    ·intro w' _
     go_simp
    simp only [Act.put,zga,zgb,zgc,zsa,zsb,zsc]
    refine zqt 5 (.int .i64 (V 1)) rfl ?_ HS0 ?_
    ·intro w' hS
     have c0:=hS.2.cell 1 (by omega)
     go_simp
    simp only [Act.put,zga,zgb,zgc,zsa,zsb,zsc]
    refine zqt 6 (.slice (some ⟨gv,0,none⟩) 3 cap) rfl ?_ HS0 ?_
    ·intro w' _
     go_simp
    simp only [Act.put,zga,zgb,zgc,zsa,zsb,zsc]
    refine zqt 7 (.pointer (some ⟨gv,2,none⟩)) rfl ?_ HS0 ?_
    ·intro w' _
     go_simp
    simp only [Act.put,zga,zgb,zgc,zsa,zsb,zsc]
    refine zqt 8 (.int .i64 (V 2)) rfl ?_ HS0 ?_
    ·intro w' hS
     have c0:=hS.2.cell 2 (by omega)
     go_simp
    simp only [Act.put,zga,zgb,zgc,zsa,zsb,zsc]
    refine zqt 9 (.int .i64 0) rfl ?_ HS0 ?_
    ·intro w' _
     go_simp
    simp only [Act.put,zga,zgb,zgc,zsa,zsb,zsc]
    refine zqr 10 rfl (fun K1 hK=>?_)
    refine if_wanted (wanted_none rfl) ?_
    simp only [zga,zgb,zgc]
    go_simp
    refine hK.out _ _ (HS0.called (bstart u0 (.cells #[.int .i64 (V 0),.int .i64 (V 1),.int .i64 (V 2),.int .i64 0] 3))) (fun HS1=>?_)
    clear hK
    refine zqt 11 (.slice (some ⟨u0.heap.size,0,none⟩) 4 4) rfl ?_ HS1 ?_
    ·intro w' _
     go_simp
    simp only [Act.put,zga,zgb,zgc,zsa,zsb,zsc]
    refine wpAnyH_done (by kernel_rfl) ?_ _
    have hblk:(u0.alloc (.cells #[.int .i64 (V 0),.int .i64 (V 1),.int .i64 (V 2),.int .i64 0] 3)).heap[u0.heap.size]?=some (.cells #[.int .i64 (V 0),.int .i64 (V 1),.int .i64 (V 2),.int .i64 0] 3 (0,0)):=heap_alloc_new u0 _
    have HF:=hid_of (And.intro hblk HS1.1.2)
    have HLE:Hid (w.heap.size≤u0.heap.size):=HS0.1.2.size
    clear hblk HS0 HS1
    generalize u0.alloc (.cells #[.int .i64 (V 0),.int .i64 (V 1),.int .i64 (V 2),.int .i64 0] 3)=u1 at HF ⊢
    go_wp2_with fail
    all_goals
     go_ret
     refine⟨u0.heap.size,4,rfl,fun k hk=>?_,block_lt HF.out.1,HF.out.2,HLE.out⟩
     rw[cell_of_block HF.out.1 k]
     have:k=0∨k=1∨k=2∨k=3:=by omega
     rcases this with rfl | rfl | rfl | rfl <;> simp [HV.out]
set_option maxRecDepth 100000 in
set_option maxHeartbeats 4000000 in
theorem specPix_0 (hw hh:Int) (d:Nat) (lace:Bool) (tn cn:Nat) (C:Nat→Int) (rw' rh rc rd:Int) (sn kn:Nat) (ta ca ka:Option Addr) (g off tc cc sc kc:Nat) (B A:Nat) (s:Nat→Int) (w:World)
  (hg:g < w.heap.size) (hs:∀ i,i < 1→w.cell? ⟨g,off+A+i,none⟩=some (.int .i64 (s i))∧0≤s i∧s i≤65535) (hA:A+1≤sn) (hAB:A=B * 1) (hsn:sn≤1048576) (hcap:sn≤sc) (hd:Five (d:Int)) (hC:Came w ca cn C) (hcn:cn=0∨cn=1) (V:Nat→Int) (hV:V=fun i=>s i * mulD d):
  Calls Tryz.prog 56 #[.agg #[.int .i64 hw,.int .i64 hh,.int .i64 (d:Int),.int .i64 0,.bool lace,.slice ta tn tc,.slice ca cn cc,.int .i64 rw',.int .i64 rh,.int .i64 rc,.int .i64 rd,.slice (some ⟨g,off,none⟩) sn sc,.slice ka kn kc],.int .i64 (B:Int)] w (Four (fun k=>if k < 3 then s 0 * mulD d else if clB cn C s 1 then 0 else 65535) w):=by
 have hch:=fun W=>specChannels 0 W
 rw[show chan 0=1 by decide] at hch
 have hpw:=fun W=>pow_any d W (by have:=five_range hd; omega)
 have HM:=hid_of (mulD_five hd)
 have HW:=hid_of (fun x=>mulD_way hd x)
 obtain⟨M,hM⟩:∃ M,M=p2 d:=⟨_,rfl⟩
 rw[← hM] at hpw HM HW
 have hM2:2≤M∧M≤65536:=by
  have h1:=HM.out.2.2.2
  have h2:=p2_le (show d≤16 by have:=five_range hd; omega)
  rw[show p2 16=65536 by decide +kernel,← hM] at h2
  omega
 have w7:IntKind.i64.wrap (M - 1)=M - 1:=by rw [IntKind.wrap_i64]; omega
 have n0:((M - 1:Int) == 0)=false:=by simp only [beq_eq_false_iff_ne,ne_eq]; omega
 have n0p:¬ (M - 1:Int)=0:=by omega
 obtain rfl:A=B:=by omega
 have wB:IntKind.i64.wrap (A:Int)=(A:Int):=by rw [IntKind.wrap_i64]; omega
 have wB0:True:=trivial
 have wA:IntKind.i64.wrap ((A:Int)+1)=(A:Int)+1:=by rw [IntKind.wrap_i64]; omega
 have b0:(0:Int)≤(A:Int):=by omega
 have b1:(A:Int)≤(A:Int)+1:=by omega
 have b2:(A:Int)+1≤(sc:Int):=by omega
 have b3:((A:Int)+1).toNat=A+1:=by omega
 have HC:=hid_of hC
 have HS:=hid_of hs
 have HV:=hid_of hV
 have HCN:=hid_of hcn
 have H0:Hid (PBox w (w.alloc (.cells #[.int .i64 hw,.int .i64 hh,.int .i64 (d:Int),.int .i64 0,.bool lace,.slice ta tn tc,.slice ca cn cc,.int .i64 rw',.int .i64 rh,.int .i64 rc,.int .i64 rd,.slice (some ⟨g,off,none⟩) sn sc,.slice ka kn kc] 37)) #[.int .i64 hw,.int .i64 hh,.int .i64 (d:Int),.int .i64 0,.bool lace,.slice ta tn tc,.slice ca cn cc,.int .i64 rw',.int .i64 rh,.int .i64 rc,.int .i64 rd,.slice (some ⟨g,off,none⟩) sn sc,.slice ka kn kc]):=⟨heap_alloc_new w _,bstart w _⟩
 have hc0:decide ((0:Int) < (cn:Int))=clB cn C s 0:=by simp [clB]
 have hc0':decide (0 < cn)=clB cn C s 0:=by simp [clB]
 clear hM hV hC hs hcn wB0 hAB
 go_enter Tryz.func56,Tryz.ntmps56
 go_wp2_with fail
 refine (hch _).mono ?_
 rintro e w1 ⟨rfl,q⟩
 obtain rfl:=q
 go_wp2_with fail
 refine (hpw _).mono ?_
 rintro e w2 ⟨rfl,q⟩
 obtain rfl:=q
 go_wp2_with fail
 have H1:Hid (SpI w #[.int .i64 hw,.int .i64 hh,.int .i64 (d:Int),.int .i64 0,.bool lace,.slice ta tn tc,.slice ca cn cc,.int .i64 rw',.int .i64 rh,.int .i64 rc,.int .i64 rd,.slice (some ⟨g,off,none⟩) sn sc,.slice ka kn kc] (w.heap.size+1) 0 V 0 ((w.alloc (.cells #[.int .i64 hw,.int .i64 hh,.int .i64 (d:Int),.int .i64 0,.bool lace,.slice ta tn tc,.slice ca cn cc,.int .i64 rw',.int .i64 rh,.int .i64 rc,.int .i64 rd,.slice (some ⟨g,off,none⟩) sn sc,.slice ka kn kc] 37)).alloc (.cells #[] 3))):=by
  refine⟨H0.out.called (bstart _ _),0,#[],(0,0),rfl,Nat.le_refl _,?_,.inl rfl,Nat.le_refl _,Nat.zero_le _,rfl,rfl⟩
  show ((w.heap.push _).push _)[w.heap.size+1]?=_
  rw[Array.getElem?_push,if_pos (by simp)]
 clear H0 hpw hch wB wA b1 b2 b3 hc0 hc0'
 go_loopw [10,11,12] (fun v b i X=>∃ j gv cap:Nat,j≤1∧v=.slice (some ⟨gv,0,none⟩) j cap∧b=.bool (clB cn C s j)∧i=.int .i64 (j:Int)∧Hid (SpI w #[.int .i64 hw,.int .i64 hh,.int .i64 (d:Int),.int .i64 0,.bool lace,.slice ta tn tc,.slice ca cn cc,.int .i64 rw',.int .i64 rh,.int .i64 rc,.int .i64 rd,.slice (some ⟨g,off,none⟩) sn sc,.slice ka kn kc] gv cap V j X)) (fun _ _ i _=>1 - (intOf i).toNat)
 case atStart=>exact⟨0,w.heap.size+1,0,Nat.zero_le _,rfl,rfl,rfl,H1⟩
 case round=>
  clear H1
  obtain⟨j,gv,cap,hj,rfl,rfl,rfl,hI⟩:=hrel
  by_cases hlt:j < 1
  ·obtain⟨hsj,hs0,hs1⟩:=HS.out j hlt
   have c0:=(hI.out.1.2.cell (p:=⟨g,off+A+j,none⟩) hg).trans hsj
   have hg2:g < wr.heap.size:=Nat.lt_of_lt_of_le hg hI.out.1.2.size
   have hVj:V j=s j * mulD d:=by rw [HV.out]
   have q1:(s j * 65535).tdiv (M - 1)=V j:=by
    rw[Int.tdiv_eq_ediv_of_nonneg (by omega),HW.out,hVj]
   have hVb:0≤V j∧V j≤65535 * 65535:=by
    rw[hVj]
    exact⟨Int.mul_nonneg hs0 (by have:=HM.out.1; omega),Int.mul_le_mul hs1 HM.out.2.1 (by have:=HM.out.1; omega) (by omega)⟩
   have wm:IntKind.i64.wrap (s j * 65535)=s j * 65535:=by rw [IntKind.wrap_i64]; omega
   have wv:IntKind.i64.wrap (V j)=V j:=by rw [IntKind.wrap_i64]; omega
   have hj0:(0:Int)≤(j:Int):=by omega
   have hj1:(j:Int) < 1:=by omega
   have dj:decide ((j:Int) < 1)=true:=decide_eq_true hj1
   have hnx:=clB_next cn C s j
   have HNX:=hid_of hnx
   have HFA:Hid (fints V j ++ [.int .i64 (V j)]=fints V (j+1)):=by
    show _=_
    unfold fints
    rw[List.range_succ,List.map_append]
    rfl
   obtain⟨x,hx⟩:∃ x,x=s j:=⟨_,rfl⟩
   obtain⟨y,hy⟩:∃ y,y=V j:=⟨_,rfl⟩
   rw[← hx] at c0 q1 wm
   rw[← hy] at q1 wv HFA
   have HX:=hid_of hx
   clear hx hy hVj hVb hs0 hs1 hsj hnx
   obtain⟨i0,hi0,hz0,hz1,hz2⟩:=info_parts info_int18
   have hl1:(fints V j).length+1≤maxLen∧((fints V j).length+1) * 8≤140737488355328:=by rw [fints_length]; unfold maxLen; omega
   go_wp2_with (at_builtin; refine wpList_append1 rfl _ _ 25 rfl i0 (.int .i64 0) 8 Tryz.underlying25 hi0 hz0 hz1 hz2 rfl rfl (hI.out.2.alloc _) ⟨wr.heap.size,0,none⟩ 1 (.int .i64 y) rfl ?c1 rfl rfl hl1.1 hl1.2 ?_)
   case c1=>simp
   ·intro g2 u2 w3 hO3 hg3 hgr3
    obtain⟨cap2,hu2⟩:=hO3.form
    rw[HFA.out] at hO3 hu2
    rw[fints_length] at hu2
    subst hu2
    have hgv:=hI.out.2.base_le
    have HI3:Hid (SpI w #[.int .i64 hw,.int .i64 hh,.int .i64 (d:Int),.int .i64 0,.bool lace,.slice ta tn tc,.slice ca cn cc,.int .i64 rw',.int .i64 rh,.int .i64 rc,.int .i64 rd,.slice (some ⟨g,off,none⟩) sn sc,.slice ka kn kc] g2 cap2 V (j+1) w3):=by
     refine⟨⟨(hgr3.block _ (by have:=block_lt hI.out.1.1; simp; omega) (fun e=>by cases e; omega)).trans (((bstart wr _).block _ (block_lt hI.out.1.1)).trans hI.out.1.1),(bal hI.out.1.2 _).grown hgr3 (by have:=hI.out.1.2.size; simp; omega) (fun q hq=>by cases hq; omega)⟩,?_⟩
     show Own 3 w3 (w.heap.size+1) g2 (.slice (some ⟨g2,0,none⟩) (j+1) cap2) (fints V (j+1))
     exact hO3
    have k0:=(HI3.out.1.2.cell (p:=⟨g,off+A+j,none⟩) hg).trans (HS.out j hlt).1
    rw[← HX.out] at k0
    have kl:=block_lt HI3.out.1.1
    have kg:g < w3.heap.size:=Nat.lt_of_lt_of_le hg HI3.out.1.2.size
    have a6:=(cell_of_block HI3.out.1.1 6).trans rfl
    clear hO3 hg3 hgr3 hgv c0 hg2 hI hi0 hz0 hz1 hz2 q1 wm wv
    generalize hq:clB cn C s j=cb
    have HQ:=hid_of hq
    clear hq
    cases cb
    ·have HN:Hid (clB cn C s (j+1)=false):=by show _=_; rw [HNX.out,HQ.out]; rfl
     go_wp2_with fail
     go_quiet (fail)
     have HI4:=hid_of (HI3.out.called (bdraws (Below.refl _ _) nq))
     clear HI3 k0 kl kg a6
     go_wp2_with fail
     go_roundw
     case rel=>exact⟨j+1,g2,cap2,by omega,rfl,by rw [HN.out],by go_num,HI4⟩
     case measure=>simp [intOf]; omega
    ·have hcnn:cn=1:=by
      rcases HCN.out with h | h
      ·have:=HQ.out
       unfold clB at this
       rw[h] at this
       simp at this
      ·exact h
     rcases HC.out.called HI3.out.1.2 with h0 | ⟨gc,oc,rfl,hgc,hcc⟩
     ·omega
     have c1:=hcc j (by omega)
     have r1:(j:Int) < (cn:Int):=by omega
     have HN:Hid (clB cn C s (j+1)=decide (C j=x)):=by show _=_; rw [HNX.out,HQ.out,HX.out]; rfl
     obtain⟨cj,hcj⟩:∃ cj,cj=C j:=⟨_,rfl⟩
     rw[← hcj] at c1 HN
     clear hcc hcj hcnn
     by_cases he:cj=x
     ·have de:(cj == x)=true:=by simpa using he
      have HN2:Hid (clB cn C s (j+1)=true):=by show _=_; rw [HN.out,decide_eq_true he]
      clear he HN
      go_wp2_with fail
      go_quiet (fail)
      have HI4:=hid_of (HI3.out.called (bdraws (Below.refl _ _) nq))
      clear HI3 k0 kl kg a6 c1
      go_wp2_with fail
      go_roundw
      case rel=>exact⟨j+1,g2,cap2,by omega,rfl,by rw [HN2.out],by go_num,HI4⟩
      case measure=>simp [intOf]; omega
     ·have de:(cj == x)=false:=by simpa using he
      have HN2:Hid (clB cn C s (j+1)=false):=by show _=_; rw [HN.out,decide_eq_false he]
      clear he HN
      go_wp2_with fail
      go_quiet (fail)
      have HI4:=hid_of (HI3.out.called (bdraws (Below.refl _ _) nq))
      clear HI3 k0 kl kg a6 c1
      go_wp2_with fail
      go_roundw
      case rel=>exact⟨j+1,g2,cap2,by omega,rfl,by rw [HN2.out],by go_num,HI4⟩
      case measure=>simp [intOf]; omega
  ·obtain rfl:j=1:=by omega
   have dj:decide (((1:Nat):Int) < 1)=false:=by decide
   have HI:=hid_of hI.out
   clear hI hj hlt
   cases hq:clB cn C s 1
   ·go_wp2_with fail
    have HS0:SpI w #[.int .i64 hw,.int .i64 hh,.int .i64 (d:Int),.int .i64 0,.bool lace,.slice ta tn tc,.slice ca cn cc,.int .i64 rw',.int .i64 rh,.int .i64 rc,.int .i64 rd,.slice (some ⟨g,off,none⟩) sn sc,.slice ka kn kc] gv cap V 1 wr.drew:=HI.out.called (bdraws (Below.refl _ _) 1)
    refine wp_region_held (S:=SpI w #[.int .i64 hw,.int .i64 hh,.int .i64 (d:Int),.int .i64 0,.bool lace,.slice ta tn tc,.slice ca cn cc,.int .i64 rw',.int .i64 rh,.int .i64 rc,.int .i64 rd,.slice (some ⟨g,off,none⟩) sn sc,.slice ka kn kc] gv cap V 1) (by kernel_rfl) ?_
    show wpAnyH _ _ _ _ _ _ _ _ wr.drew
    clear HI
    generalize wr.drew=u0 at HS0 ⊢
    refine zqt 0 (.slice (some ⟨gv,0,none⟩) 1 cap) rfl ?_ HS0 ?_
    ·intro w' _
     go_simp
    simp only [Act.put,zga,zgb,zsa,zsb,zsc]
    refine zqt 1 (.pointer (some ⟨gv,0,none⟩)) rfl ?_ HS0 ?_
    ·intro w' _
     go_simp
    simp only [Act.put,zga,zgb,zgc,zsa,zsb,zsc]
    refine zqt 2 (.int .i64 (V 0)) rfl ?_ HS0 ?_
    ·intro w' hS
     have c0:=hS.2.cell 0 (by omega)
     go_simp
    simp only [Act.put,zga,zgb,zgc,zsa,zsb,zsc]
    refine zqt 3 (.slice (some ⟨gv,0,none⟩) 1 cap) rfl ?_ HS0 ?_
    ·intro w' _
     go_simp
    simp only [Act.put,zga,zgb,zgc,zsa,zsb,zsc]
    refine zqt 4 (.pointer (some ⟨gv,0,none⟩)) rfl ?_ HS0 ?_
    ·intro w' _
     go_simp
    simp only [Act.put,zga,zgb,zgc,zsa,zsb,zsc]
    refine zqt 5 (.int .i64 (V 0)) rfl ?_ HS0 ?_
    ·intro w' hS
     have c0:=hS.2.cell 0 (by omega)
     go_simp
    simp only [Act.put,zga,zgb,zgc,zsa,zsb,zsc]
    refine zqt 6 (.slice (some ⟨gv,0,none⟩) 1 cap) rfl ?_ HS0 ?_
    ·intro w' _
     go_simp
    simp only [Act.put,zga,zgb,zgc,zsa,zsb,zsc]
    refine zqt 7 (.pointer (some ⟨gv,0,none⟩)) rfl ?_ HS0 ?_
    ·intro w' _
     go_simp
    simp only [Act.put,zga,zgb,zgc,zsa,zsb,zsc]
    refine zqt 8 (.int .i64 (V 0)) rfl ?_ HS0 ?_
    ·intro w' hS
     have c0:=hS.2.cell 0 (by omega)
     go_simp
    simp only [Act.put,zga,zgb,zgc,zsa,zsb,zsc]
    refine zqt 9 (.int .i64 65535) rfl ?_ HS0 ?_
    ·intro w' _
     go_simp
    simp only [Act.put,zga,zgb,zgc,zsa,zsb,zsc]
    refine zqr 10 rfl (fun K1 hK=>?_)
    refine if_wanted (wanted_none rfl) ?_
    simp only [zga,zgb,zgc]
    go_simp
    refine hK.out _ _ (HS0.called (bstart u0 (.cells #[.int .i64 (V 0),.int .i64 (V 0),.int .i64 (V 0),.int .i64 65535] 3))) (fun HS1=>?_)
    clear hK
    refine zqt 11 (.slice (some ⟨u0.heap.size,0,none⟩) 4 4) rfl ?_ HS1 ?_
    ·intro w' _
     go_simp
    simp only [Act.put,zga,zgb,zgc,zsa,zsb,zsc]
    refine wpAnyH_done (by kernel_rfl) ?_ _
    have hblk:(u0.alloc (.cells #[.int .i64 (V 0),.int .i64 (V 0),.int .i64 (V 0),.int .i64 65535] 3)).heap[u0.heap.size]?=some (.cells #[.int .i64 (V 0),.int .i64 (V 0),.int .i64 (V 0),.int .i64 65535] 3 (0,0)):=heap_alloc_new u0 _
    have HF:=hid_of (And.intro hblk HS1.1.2)
    have HLE:Hid (w.heap.size≤u0.heap.size):=HS0.1.2.size
    clear hblk HS0 HS1
    generalize u0.alloc (.cells #[.int .i64 (V 0),.int .i64 (V 0),.int .i64 (V 0),.int .i64 65535] 3)=u1 at HF ⊢
    go_wp2_with fail
    all_goals
     go_ret
     refine⟨u0.heap.size,4,rfl,fun k hk=>?_,block_lt HF.out.1,HF.out.2,HLE.out⟩
     rw[cell_of_block HF.out.1 k]
     have:k=0∨k=1∨k=2∨k=3:=by omega
     rcases this with rfl | rfl | rfl | rfl <;> simp [HV.out]
   ·go_wp2_with fail
    have HS0:SpI w #[.int .i64 hw,.int .i64 hh,.int .i64 (d:Int),.int .i64 0,.bool lace,.slice ta tn tc,.slice ca cn cc,.int .i64 rw',.int .i64 rh,.int .i64 rc,.int .i64 rd,.slice (some ⟨g,off,none⟩) sn sc,.slice ka kn kc] gv cap V 1 wr.drew:=HI.out.called (bdraws (Below.refl _ _) 1)
    refine wp_region_held (S:=SpI w #[.int .i64 hw,.int .i64 hh,.int .i64 (d:Int),.int .i64 0,.bool lace,.slice ta tn tc,.slice ca cn cc,.int .i64 rw',.int .i64 rh,.int .i64 rc,.int .i64 rd,.slice (some ⟨g,off,none⟩) sn sc,.slice ka kn kc] gv cap V 1) (by kernel_rfl) ?_
    show wpAnyH _ _ _ _ _ _ _ _ wr.drew
    clear HI
    generalize wr.drew=u0 at HS0 ⊢
    refine zqt 0 (.slice (some ⟨gv,0,none⟩) 1 cap) rfl ?_ HS0 ?_
    ·intro w' _
     go_simp
    simp only [Act.put,zga,zgb,zsa,zsb,zsc]
    refine zqt 1 (.pointer (some ⟨gv,0,none⟩)) rfl ?_ HS0 ?_
    ·intro w' _
     go_simp
    simp only [Act.put,zga,zgb,zgc,zsa,zsb,zsc]
    refine zqt 2 (.int .i64 (V 0)) rfl ?_ HS0 ?_
    ·intro w' hS
     have c0:=hS.2.cell 0 (by omega)
     go_simp
    simp only [Act.put,zga,zgb,zgc,zsa,zsb,zsc]
    refine zqt 3 (.slice (some ⟨gv,0,none⟩) 1 cap) rfl ?_ HS0 ?_
    ·intro w' _
     go_simp
    simp only [Act.put,zga,zgb,zgc,zsa,zsb,zsc]
    refine zqt 4 (.pointer (some ⟨gv,0,none⟩)) rfl ?_ HS0 ?_
    ·intro w' _
     go_simp
    simp only [Act.put,zga,zgb,zgc,zsa,zsb,zsc]
    refine zqt 5 (.int .i64 (V 0)) rfl ?_ HS0 ?_
    ·intro w' hS
     have c0:=hS.2.cell 0 (by omega)
     go_simp
    simp only [Act.put,zga,zgb,zgc,zsa,zsb,zsc]
    refine zqt 6 (.slice (some ⟨gv,0,none⟩) 1 cap) rfl ?_ HS0 ?_
    ·intro w' _
     go_simp
    simp only [Act.put,zga,zgb,zgc,zsa,zsb,zsc]
    refine zqt 7 (.pointer (some ⟨gv,0,none⟩)) rfl ?_ HS0 ?_
    ·intro w' _
     go_simp
    simp only [Act.put,zga,zgb,zgc,zsa,zsb,zsc]
    refine zqt 8 (.int .i64 (V 0)) rfl ?_ HS0 ?_
    ·intro w' hS
     have c0:=hS.2.cell 0 (by omega)
     go_simp
    simp only [Act.put,zga,zgb,zgc,zsa,zsb,zsc]
    refine zqt 9 (.int .i64 0) rfl ?_ HS0 ?_
    ·intro w' _
     go_simp
    simp only [Act.put,zga,zgb,zgc,zsa,zsb,zsc]
    refine zqr 10 rfl (fun K1 hK=>?_)
    refine if_wanted (wanted_none rfl) ?_
    simp only [zga,zgb,zgc]
    go_simp
    refine hK.out _ _ (HS0.called (bstart u0 (.cells #[.int .i64 (V 0),.int .i64 (V 0),.int .i64 (V 0),.int .i64 0] 3))) (fun HS1=>?_)
    clear hK
    refine zqt 11 (.slice (some ⟨u0.heap.size,0,none⟩) 4 4) rfl ?_ HS1 ?_
    ·intro w' _
     go_simp
    simp only [Act.put,zga,zgb,zgc,zsa,zsb,zsc]
    refine wpAnyH_done (by kernel_rfl) ?_ _
    have hblk:(u0.alloc (.cells #[.int .i64 (V 0),.int .i64 (V 0),.int .i64 (V 0),.int .i64 0] 3)).heap[u0.heap.size]?=some (.cells #[.int .i64 (V 0),.int .i64 (V 0),.int .i64 (V 0),.int .i64 0] 3 (0,0)):=heap_alloc_new u0 _
    have HF:=hid_of (And.intro hblk HS1.1.2)
    have HLE:Hid (w.heap.size≤u0.heap.size):=HS0.1.2.size
    clear hblk HS0 HS1
    generalize u0.alloc (.cells #[.int .i64 (V 0),.int .i64 (V 0),.int .i64 (V 0),.int .i64 0] 3)=u1 at HF ⊢
    go_wp2_with fail
    all_goals
     go_ret
     refine⟨u0.heap.size,4,rfl,fun k hk=>?_,block_lt HF.out.1,HF.out.2,HLE.out⟩
     rw[cell_of_block HF.out.1 k]
     have:k=0∨k=1∨k=2∨k=3:=by omega
     rcases this with rfl | rfl | rfl | rfl <;> simp [HV.out]
set_option maxRecDepth 100000 in
set_option maxHeartbeats 4000000 in
theorem specPix_4 (hw hh:Int) (d:Nat) (lace:Bool) (tn cn:Nat) (C:Nat→Int) (rw' rh rc rd:Int) (sn kn:Nat) (ta ca ka:Option Addr) (g off tc cc sc kc:Nat) (B A:Nat) (s:Nat→Int) (w:World)
  (hg:g < w.heap.size) (hs:∀ i,i < 2→w.cell? ⟨g,off+A+i,none⟩=some (.int .i64 (s i))∧0≤s i∧s i≤65535) (hA:A+2≤sn) (hAB:A=B * 2) (hsn:sn≤1048576) (hcap:sn≤sc) (hd:Five (d:Int)) (hC:Came w ca cn C) (hcn:cn=0∨cn=2) (V:Nat→Int) (hV:V=fun i=>s i * mulD d):
  Calls Tryz.prog 56 #[.agg #[.int .i64 hw,.int .i64 hh,.int .i64 (d:Int),.int .i64 4,.bool lace,.slice ta tn tc,.slice ca cn cc,.int .i64 rw',.int .i64 rh,.int .i64 rc,.int .i64 rd,.slice (some ⟨g,off,none⟩) sn sc,.slice ka kn kc],.int .i64 (B:Int)] w (Four (fun k=>(if k < 3 then s 0 else s 1) * mulD d) w):=by
 have hch:=fun W=>specChannels 4 W
 rw[show chan 4=2 by decide] at hch
 have hpw:=fun W=>pow_any d W (by have:=five_range hd; omega)
 have HM:=hid_of (mulD_five hd)
 have HW:=hid_of (fun x=>mulD_way hd x)
 obtain⟨M,hM⟩:∃ M,M=p2 d:=⟨_,rfl⟩
 rw[← hM] at hpw HM HW
 have hM2:2≤M∧M≤65536:=by
  have h1:=HM.out.2.2.2
  have h2:=p2_le (show d≤16 by have:=five_range hd; omega)
  rw[show p2 16=65536 by decide +kernel,← hM] at h2
  omega
 have w7:IntKind.i64.wrap (M - 1)=M - 1:=by rw [IntKind.wrap_i64]; omega
 have n0:((M - 1:Int) == 0)=false:=by simp only [beq_eq_false_iff_ne,ne_eq]; omega
 have n0p:¬ (M - 1:Int)=0:=by omega
 have wB:IntKind.i64.wrap ((B:Int) * 2)=(A:Int):=by rw [IntKind.wrap_i64]; omega
 have wB0:IntKind.i64.wrap (B:Int)=(A:Int)∨True:=.inr trivial
 have wA:IntKind.i64.wrap ((A:Int)+2)=(A:Int)+2:=by rw [IntKind.wrap_i64]; omega
 have b0:(0:Int)≤(A:Int):=by omega
 have b1:(A:Int)≤(A:Int)+2:=by omega
 have b2:(A:Int)+2≤(sc:Int):=by omega
 have b3:((A:Int)+2).toNat=A+2:=by omega
 have HC:=hid_of hC
 have HS:=hid_of hs
 have HV:=hid_of hV
 have HCN:=hid_of hcn
 have H0:Hid (PBox w (w.alloc (.cells #[.int .i64 hw,.int .i64 hh,.int .i64 (d:Int),.int .i64 4,.bool lace,.slice ta tn tc,.slice ca cn cc,.int .i64 rw',.int .i64 rh,.int .i64 rc,.int .i64 rd,.slice (some ⟨g,off,none⟩) sn sc,.slice ka kn kc] 37)) #[.int .i64 hw,.int .i64 hh,.int .i64 (d:Int),.int .i64 4,.bool lace,.slice ta tn tc,.slice ca cn cc,.int .i64 rw',.int .i64 rh,.int .i64 rc,.int .i64 rd,.slice (some ⟨g,off,none⟩) sn sc,.slice ka kn kc]):=⟨heap_alloc_new w _,bstart w _⟩
 have hc0:decide ((0:Int) < (cn:Int))=clB cn C s 0:=by simp [clB]
 have hc0':decide (0 < cn)=clB cn C s 0:=by simp [clB]
 clear hM hV hC hs hcn wB0 hAB
 go_enter Tryz.func56,Tryz.ntmps56
 go_wp2_with fail
 refine (hch _).mono ?_
 rintro e w1 ⟨rfl,q⟩
 obtain rfl:=q
 go_wp2_with fail
 refine (hpw _).mono ?_
 rintro e w2 ⟨rfl,q⟩
 obtain rfl:=q
 go_wp2_with fail
 have H1:Hid (SpI w #[.int .i64 hw,.int .i64 hh,.int .i64 (d:Int),.int .i64 4,.bool lace,.slice ta tn tc,.slice ca cn cc,.int .i64 rw',.int .i64 rh,.int .i64 rc,.int .i64 rd,.slice (some ⟨g,off,none⟩) sn sc,.slice ka kn kc] (w.heap.size+1) 0 V 0 ((w.alloc (.cells #[.int .i64 hw,.int .i64 hh,.int .i64 (d:Int),.int .i64 4,.bool lace,.slice ta tn tc,.slice ca cn cc,.int .i64 rw',.int .i64 rh,.int .i64 rc,.int .i64 rd,.slice (some ⟨g,off,none⟩) sn sc,.slice ka kn kc] 37)).alloc (.cells #[] 3))):=by
  refine⟨H0.out.called (bstart _ _),0,#[],(0,0),rfl,Nat.le_refl _,?_,.inl rfl,Nat.le_refl _,Nat.zero_le _,rfl,rfl⟩
  show ((w.heap.push _).push _)[w.heap.size+1]?=_
  rw[Array.getElem?_push,if_pos (by simp)]
 clear H0 hpw hch wB wA b1 b2 b3 hc0 hc0'
 go_loopw [10,11,12] (fun v b i X=>∃ j gv cap:Nat,j≤2∧v=.slice (some ⟨gv,0,none⟩) j cap∧b=.bool (clB cn C s j)∧i=.int .i64 (j:Int)∧Hid (SpI w #[.int .i64 hw,.int .i64 hh,.int .i64 (d:Int),.int .i64 4,.bool lace,.slice ta tn tc,.slice ca cn cc,.int .i64 rw',.int .i64 rh,.int .i64 rc,.int .i64 rd,.slice (some ⟨g,off,none⟩) sn sc,.slice ka kn kc] gv cap V j X)) (fun _ _ i _=>2 - (intOf i).toNat)
 case atStart=>exact⟨0,w.heap.size+1,0,Nat.zero_le _,rfl,rfl,rfl,H1⟩
 case round=>
  clear H1
  obtain⟨j,gv,cap,hj,rfl,rfl,rfl,hI⟩:=hrel
  by_cases hlt:j < 2
  ·obtain⟨hsj,hs0,hs1⟩:=HS.out j hlt
   have c0:=(hI.out.1.2.cell (p:=⟨g,off+A+j,none⟩) hg).trans hsj
   have hg2:g < wr.heap.size:=Nat.lt_of_lt_of_le hg hI.out.1.2.size
   have hVj:V j=s j * mulD d:=by rw [HV.out]
   have q1:(s j * 65535).tdiv (M - 1)=V j:=by
    rw[Int.tdiv_eq_ediv_of_nonneg (by omega),HW.out,hVj]
   have hVb:0≤V j∧V j≤65535 * 65535:=by
    rw[hVj]
    exact⟨Int.mul_nonneg hs0 (by have:=HM.out.1; omega),Int.mul_le_mul hs1 HM.out.2.1 (by have:=HM.out.1; omega) (by omega)⟩
   have wm:IntKind.i64.wrap (s j * 65535)=s j * 65535:=by rw [IntKind.wrap_i64]; omega
   have wv:IntKind.i64.wrap (V j)=V j:=by rw [IntKind.wrap_i64]; omega
   have hj0:(0:Int)≤(j:Int):=by omega
   have hj1:(j:Int) < 2:=by omega
   have dj:decide ((j:Int) < 2)=true:=decide_eq_true hj1
   have hnx:=clB_next cn C s j
   have HNX:=hid_of hnx
   have HFA:Hid (fints V j ++ [.int .i64 (V j)]=fints V (j+1)):=by
    show _=_
    unfold fints
    rw[List.range_succ,List.map_append]
    rfl
   obtain⟨x,hx⟩:∃ x,x=s j:=⟨_,rfl⟩
   obtain⟨y,hy⟩:∃ y,y=V j:=⟨_,rfl⟩
   rw[← hx] at c0 q1 wm
   rw[← hy] at q1 wv HFA
   have HX:=hid_of hx
   clear hx hy hVj hVb hs0 hs1 hsj hnx
   obtain⟨i0,hi0,hz0,hz1,hz2⟩:=info_parts info_int18
   have hl1:(fints V j).length+1≤maxLen∧((fints V j).length+1) * 8≤140737488355328:=by rw [fints_length]; unfold maxLen; omega
   go_wp2_with (at_builtin; refine wpList_append1 rfl _ _ 25 rfl i0 (.int .i64 0) 8 Tryz.underlying25 hi0 hz0 hz1 hz2 rfl rfl (hI.out.2.alloc _) ⟨wr.heap.size,0,none⟩ 1 (.int .i64 y) rfl ?c1 rfl rfl hl1.1 hl1.2 ?_)
   case c1=>simp
   ·intro g2 u2 w3 hO3 hg3 hgr3
    obtain⟨cap2,hu2⟩:=hO3.form
    rw[HFA.out] at hO3 hu2
    rw[fints_length] at hu2
    subst hu2
    have hgv:=hI.out.2.base_le
    have HI3:Hid (SpI w #[.int .i64 hw,.int .i64 hh,.int .i64 (d:Int),.int .i64 4,.bool lace,.slice ta tn tc,.slice ca cn cc,.int .i64 rw',.int .i64 rh,.int .i64 rc,.int .i64 rd,.slice (some ⟨g,off,none⟩) sn sc,.slice ka kn kc] g2 cap2 V (j+1) w3):=by
     refine⟨⟨(hgr3.block _ (by have:=block_lt hI.out.1.1; simp; omega) (fun e=>by cases e; omega)).trans (((bstart wr _).block _ (block_lt hI.out.1.1)).trans hI.out.1.1),(bal hI.out.1.2 _).grown hgr3 (by have:=hI.out.1.2.size; simp; omega) (fun q hq=>by cases hq; omega)⟩,?_⟩
     show Own 3 w3 (w.heap.size+1) g2 (.slice (some ⟨g2,0,none⟩) (j+1) cap2) (fints V (j+1))
     exact hO3
    have k0:=(HI3.out.1.2.cell (p:=⟨g,off+A+j,none⟩) hg).trans (HS.out j hlt).1
    rw[← HX.out] at k0
    have kl:=block_lt HI3.out.1.1
    have kg:g < w3.heap.size:=Nat.lt_of_lt_of_le hg HI3.out.1.2.size
    have a6:=(cell_of_block HI3.out.1.1 6).trans rfl
    clear hO3 hg3 hgr3 hgv c0 hg2 hI hi0 hz0 hz1 hz2 q1 wm wv
    generalize hq:clB cn C s j=cb
    have HQ:=hid_of hq
    clear hq
    cases cb
    ·have HN:Hid (clB cn C s (j+1)=false):=by show _=_; rw [HNX.out,HQ.out]; rfl
     go_wp2_with fail
     go_quiet (fail)
     have HI4:=hid_of (HI3.out.called (bdraws (Below.refl _ _) nq))
     clear HI3 k0 kl kg a6
     go_wp2_with fail
     go_roundw
     case rel=>exact⟨j+1,g2,cap2,by omega,rfl,by rw [HN.out],by go_num,HI4⟩
     case measure=>simp [intOf]; omega
    ·have hcnn:cn=2:=by
      rcases HCN.out with h | h
      ·have:=HQ.out
       unfold clB at this
       rw[h] at this
       simp at this
      ·exact h
     rcases HC.out.called HI3.out.1.2 with h0 | ⟨gc,oc,rfl,hgc,hcc⟩
     ·omega
     have c1:=hcc j (by omega)
     have r1:(j:Int) < (cn:Int):=by omega
     have HN:Hid (clB cn C s (j+1)=decide (C j=x)):=by show _=_; rw [HNX.out,HQ.out,HX.out]; rfl
     obtain⟨cj,hcj⟩:∃ cj,cj=C j:=⟨_,rfl⟩
     rw[← hcj] at c1 HN
     clear hcc hcj hcnn
     by_cases he:cj=x
     ·have de:(cj == x)=true:=by simpa using he
      have HN2:Hid (clB cn C s (j+1)=true):=by show _=_; rw [HN.out,decide_eq_true he]
      clear he HN
      go_wp2_with fail
      go_quiet (fail)
      have HI4:=hid_of (HI3.out.called (bdraws (Below.refl _ _) nq))
      clear HI3 k0 kl kg a6 c1
      go_wp2_with fail
      go_roundw
      case rel=>exact⟨j+1,g2,cap2,by omega,rfl,by rw [HN2.out],by go_num,HI4⟩
      case measure=>simp [intOf]; omega
     ·have de:(cj == x)=false:=by simpa using he
      have HN2:Hid (clB cn C s (j+1)=false):=by show _=_; rw [HN.out,decide_eq_false he]
      clear he HN
      go_wp2_with fail
      go_quiet (fail)
      have HI4:=hid_of (HI3.out.called (bdraws (Below.refl _ _) nq))
      clear HI3 k0 kl kg a6 c1
      go_wp2_with fail
      go_roundw
      case rel=>exact⟨j+1,g2,cap2,by omega,rfl,by rw [HN2.out],by go_num,HI4⟩
      case measure=>simp [intOf]; omega
  ·obtain rfl:j=2:=by omega
   have dj:decide (((2:Nat):Int) < 2)=false:=by decide
   have HI:=hid_of hI.out
   clear hI hj hlt
   cases hq:clB cn C s 2
   ·go_wp2_with fail
    have HS0:SpI w #[.int .i64 hw,.int .i64 hh,.int .i64 (d:Int),.int .i64 4,.bool lace,.slice ta tn tc,.slice ca cn cc,.int .i64 rw',.int .i64 rh,.int .i64 rc,.int .i64 rd,.slice (some ⟨g,off,none⟩) sn sc,.slice ka kn kc] gv cap V 2 wr.drew:=HI.out.called (bdraws (Below.refl _ _) 1)
    refine wp_region_held (S:=SpI w #[.int .i64 hw,.int .i64 hh,.int .i64 (d:Int),.int .i64 4,.bool lace,.slice ta tn tc,.slice ca cn cc,.int .i64 rw',.int .i64 rh,.int .i64 rc,.int .i64 rd,.slice (some ⟨g,off,none⟩) sn sc,.slice ka kn kc] gv cap V 2) (by kernel_rfl) ?_
    show wpAnyH _ _ _ _ _ _ _ _ wr.drew
    clear HI
    generalize wr.drew=u0 at HS0 ⊢
    refine zqt 0 (.slice (some ⟨gv,0,none⟩) 2 cap) rfl ?_ HS0 ?_
    ·intro w' _
     go_simp
    simp only [Act.put,zga,zgb,zsa,zsb,zsc]
    refine zqt 1 (.pointer (some ⟨gv,0,none⟩)) rfl ?_ HS0 ?_
    ·intro w' _
     go_simp
    simp only [Act.put,zga,zgb,zgc,zsa,zsb,zsc]
    refine zqt 2 (.int .i64 (V 0)) rfl ?_ HS0 ?_
    ·intro w' hS
     have c0:=hS.2.cell 0 (by omega)
     go_simp
    simp only [Act.put,zga,zgb,zgc,zsa,zsb,zsc]
    refine zqt 3 (.slice (some ⟨gv,0,none⟩) 2 cap) rfl ?_ HS0 ?_
    ·intro w' _
     go_simp
    simp only [Act.put,zga,zgb,zgc,zsa,zsb,zsc]
    refine zqt 4 (.pointer (some ⟨gv,0,none⟩)) rfl ?_ HS0 ?_
    ·intro w' _
     go_simp
    simp only [Act.put,zga,zgb,zgc,zsa,zsb,zsc]
    refine zqt 5 (.int .i64 (V 0)) rfl ?_ HS0 ?_
    ·intro w' hS
     have c0:=hS.2.cell 0 (by omega)
     go_simp
    simp only [Act.put,zga,zgb,zgc,zsa,zsb,zsc]
    refine zqt 6 (.slice (some ⟨gv,0,none⟩) 2 cap) rfl ?_ HS0 ?_
    ·intro w' _
     go_simp
    simp only [Act.put,zga,zgb,zgc,zsa,zsb,zsc]
    refine zqt 7 (.pointer (some ⟨gv,0,none⟩)) rfl ?_ HS0 ?_
    ·intro w' _
     go_simp
    simp only [Act.put,zga,zgb,zgc,zsa,zsb,zsc]
    refine zqt 8 (.int .i64 (V 0)) rfl ?_ HS0 ?_
    ·intro w' hS
     have c0:=hS.2.cell 0 (by omega)
     go_simp
    simp only [Act.put,zga,zgb,zgc,zsa,zsb,zsc]
    refine zqt 9 (.slice (some ⟨gv,0,none⟩) 2 cap) rfl ?_ HS0 ?_
    ·intro w' _
     go_simp
    simp only [Act.put,zga,zgb,zgc,zsa,zsb,zsc]
    refine zqt 10 (.pointer (some ⟨gv,1,none⟩)) rfl ?_ HS0 ?_
    ·intro w' _
     go_simp
    simp only [Act.put,zga,zgb,zgc,zsa,zsb,zsc]
    refine zqt 11 (.int .i64 (V 1)) rfl ?_ HS0 ?_
    ·intro w' hS
     have c0:=hS.2.cell 1 (by omega)
     go_simp
    simp only [Act.put,zga,zgb,zgc,zsa,zsb,zsc]
    refine zqr 12 rfl (fun K1 hK=>?_)
    refine if_wanted (wanted_none rfl) ?_
    simp only [zga,zgb,zgc]
    go_simp
    refine hK.out _ _ (HS0.called (bstart u0 (.cells #[.int .i64 (V 0),.int .i64 (V 0),.int .i64 (V 0),.int .i64 (V 1)] 3))) (fun HS1=>?_)
    clear hK
    refine zqt 13 (.slice (some ⟨u0.heap.size,0,none⟩) 4 4) rfl ?_ HS1 ?_
    ·intro w' _
     go_simp
    simp only [Act.put,zga,zgb,zgc,zsa,zsb,zsc]
    refine wpAnyH_done (by kernel_rfl) ?_ _
    have hblk:(u0.alloc (.cells #[.int .i64 (V 0),.int .i64 (V 0),.int .i64 (V 0),.int .i64 (V 1)] 3)).heap[u0.heap.size]?=some (.cells #[.int .i64 (V 0),.int .i64 (V 0),.int .i64 (V 0),.int .i64 (V 1)] 3 (0,0)):=heap_alloc_new u0 _
    have HF:=hid_of (And.intro hblk HS1.1.2)
    have HLE:Hid (w.heap.size≤u0.heap.size):=HS0.1.2.size
    clear hblk HS0 HS1
    generalize u0.alloc (.cells #[.int .i64 (V 0),.int .i64 (V 0),.int .i64 (V 0),.int .i64 (V 1)] 3)=u1 at HF ⊢
    go_wp2_with fail
    all_goals
     go_ret
     refine⟨u0.heap.size,4,rfl,fun k hk=>?_,block_lt HF.out.1,HF.out.2,HLE.out⟩
     rw[cell_of_block HF.out.1 k]
     have:k=0∨k=1∨k=2∨k=3:=by omega
     rcases this with rfl | rfl | rfl | rfl <;> simp [HV.out]
   ·go_wp2_with fail
    have HS0:SpI w #[.int .i64 hw,.int .i64 hh,.int .i64 (d:Int),.int .i64 4,.bool lace,.slice ta tn tc,.slice ca cn cc,.int .i64 rw',.int .i64 rh,.int .i64 rc,.int .i64 rd,.slice (some ⟨g,off,none⟩) sn sc,.slice ka kn kc] gv cap V 2 wr.drew:=HI.out.called (bdraws (Below.refl _ _) 1)
    refine wp_region_held (S:=SpI w #[.int .i64 hw,.int .i64 hh,.int .i64 (d:Int),.int .i64 4,.bool lace,.slice ta tn tc,.slice ca cn cc,.int .i64 rw',.int .i64 rh,.int .i64 rc,.int .i64 rd,.slice (some ⟨g,off,none⟩) sn sc,.slice ka kn kc] gv cap V 2) (by kernel_rfl) ?_
    show wpAnyH _ _ _ _ _ _ _ _ wr.drew
    clear HI
    generalize wr.drew=u0 at HS0 ⊢
    refine zqt 0 (.slice (some ⟨gv,0,none⟩) 2 cap) rfl ?_ HS0 ?_
    ·intro w' _
     go_simp
    simp only [Act.put,zga,zgb,zsa,zsb,zsc]
    refine zqt 1 (.pointer (some ⟨gv,0,none⟩)) rfl ?_ HS0 ?_
    ·intro w' _
     go_simp
    simp only [Act.put,zga,zgb,zgc,zsa,zsb,zsc]
    refine zqt 2 (.int .i64 (V 0)) rfl ?_ HS0 ?_
    ·intro w' hS
     have c0:=hS.2.cell 0 (by omega)
     go_simp
    simp only [Act.put,zga,zgb,zgc,zsa,zsb,zsc]
    refine zqt 3 (.slice (some ⟨gv,0,none⟩) 2 cap) rfl ?_ HS0 ?_
    ·intro w' _
     go_simp
    simp only [Act.put,zga,zgb,zgc,zsa,zsb,zsc]
    refine zqt 4 (.pointer (some ⟨gv,0,none⟩)) rfl ?_ HS0 ?_
    ·intro w' _
     go_simp
    simp only [Act.put,zga,zgb,zgc,zsa,zsb,zsc]
    refine zqt 5 (.int .i64 (V 0)) rfl ?_ HS0 ?_
    ·intro w' hS
     have c0:=hS.2.cell 0 (by omega)
     go_simp
    simp only [Act.put,zga,zgb,zgc,zsa,zsb,zsc]
    refine zqt 6 (.slice (some ⟨gv,0,none⟩) 2 cap) rfl ?_ HS0 ?_
    ·intro w' _
     go_simp
    simp only [Act.put,zga,zgb,zgc,zsa,zsb,zsc]
    refine zqt 7 (.pointer (some ⟨gv,0,none⟩)) rfl ?_ HS0 ?_
    ·intro w' _
     go_simp
    simp only [Act.put,zga,zgb,zgc,zsa,zsb,zsc]
    refine zqt 8 (.int .i64 (V 0)) rfl ?_ HS0 ?_
    ·intro w' hS
     have c0:=hS.2.cell 0 (by omega)
     go_simp
    simp only [Act.put,zga,zgb,zgc,zsa,zsb,zsc]
    refine zqt 9 (.slice (some ⟨gv,0,none⟩) 2 cap) rfl ?_ HS0 ?_
    ·intro w' _
     go_simp
    simp only [Act.put,zga,zgb,zgc,zsa,zsb,zsc]
    refine zqt 10 (.pointer (some ⟨gv,1,none⟩)) rfl ?_ HS0 ?_
    ·intro w' _
     go_simp
    simp only [Act.put,zga,zgb,zgc,zsa,zsb,zsc]
    refine zqt 11 (.int .i64 (V 1)) rfl ?_ HS0 ?_
    ·intro w' hS
     have c0:=hS.2.cell 1 (by omega)
     go_simp
    simp only [Act.put,zga,zgb,zgc,zsa,zsb,zsc]
    refine zqr 12 rfl (fun K1 hK=>?_)
    refine if_wanted (wanted_none rfl) ?_
    simp only [zga,zgb,zgc]
    go_simp
    refine hK.out _ _ (HS0.called (bstart u0 (.cells #[.int .i64 (V 0),.int .i64 (V 0),.int .i64 (V 0),.int .i64 (V 1)] 3))) (fun HS1=>?_)
    clear hK
    refine zqt 13 (.slice (some ⟨u0.heap.size,0,none⟩) 4 4) rfl ?_ HS1 ?_
    ·intro w' _
     go_simp
    simp only [Act.put,zga,zgb,zgc,zsa,zsb,zsc]
    refine wpAnyH_done (by kernel_rfl) ?_ _
    have hblk:(u0.alloc (.cells #[.int .i64 (V 0),.int .i64 (V 0),.int .i64 (V 0),.int .i64 (V 1)] 3)).heap[u0.heap.size]?=some (.cells #[.int .i64 (V 0),.int .i64 (V 0),.int .i64 (V 0),.int .i64 (V 1)] 3 (0,0)):=heap_alloc_new u0 _
    have HF:=hid_of (And.intro hblk HS1.1.2)
    have HLE:Hid (w.heap.size≤u0.heap.size):=HS0.1.2.size
    clear hblk HS0 HS1
    generalize u0.alloc (.cells #[.int .i64 (V 0),.int .i64 (V 0),.int .i64 (V 0),.int .i64 (V 1)] 3)=u1 at HF ⊢
    go_wp2_with fail
    all_goals
     go_ret
     refine⟨u0.heap.size,4,rfl,fun k hk=>?_,block_lt HF.out.1,HF.out.2,HLE.out⟩
     rw[cell_of_block HF.out.1 k]
     have:k=0∨k=1∨k=2∨k=3:=by omega
     rcases this with rfl | rfl | rfl | rfl <;> simp [HV.out]
set_option maxRecDepth 100000 in
set_option maxHeartbeats 4000000 in
theorem specPix_6 (hw hh:Int) (d:Nat) (lace:Bool) (tn cn:Nat) (C:Nat→Int) (rw' rh rc rd:Int) (sn kn:Nat) (ta ca ka:Option Addr) (g off tc cc sc kc:Nat) (B A:Nat) (s:Nat→Int) (w:World)
  (hg:g < w.heap.size) (hs:∀ i,i < 4→w.cell? ⟨g,off+A+i,none⟩=some (.int .i64 (s i))∧0≤s i∧s i≤65535) (hA:A+4≤sn) (hAB:A=B * 4) (hsn:sn≤1048576) (hcap:sn≤sc) (hd:Five (d:Int)) (hC:Came w ca cn C) (hcn:cn=0∨cn=4) (V:Nat→Int) (hV:V=fun i=>s i * mulD d):
  Calls Tryz.prog 56 #[.agg #[.int .i64 hw,.int .i64 hh,.int .i64 (d:Int),.int .i64 6,.bool lace,.slice ta tn tc,.slice ca cn cc,.int .i64 rw',.int .i64 rh,.int .i64 rc,.int .i64 rd,.slice (some ⟨g,off,none⟩) sn sc,.slice ka kn kc],.int .i64 (B:Int)] w (Four (fun k=>s k * mulD d) w):=by
 have hch:=fun W=>specChannels 6 W
 rw[show chan 6=4 by decide] at hch
 have hpw:=fun W=>pow_any d W (by have:=five_range hd; omega)
 have HM:=hid_of (mulD_five hd)
 have HW:=hid_of (fun x=>mulD_way hd x)
 obtain⟨M,hM⟩:∃ M,M=p2 d:=⟨_,rfl⟩
 rw[← hM] at hpw HM HW
 have hM2:2≤M∧M≤65536:=by
  have h1:=HM.out.2.2.2
  have h2:=p2_le (show d≤16 by have:=five_range hd; omega)
  rw[show p2 16=65536 by decide +kernel,← hM] at h2
  omega
 have w7:IntKind.i64.wrap (M - 1)=M - 1:=by rw [IntKind.wrap_i64]; omega
 have n0:((M - 1:Int) == 0)=false:=by simp only [beq_eq_false_iff_ne,ne_eq]; omega
 have n0p:¬ (M - 1:Int)=0:=by omega
 have wB:IntKind.i64.wrap ((B:Int) * 4)=(A:Int):=by rw [IntKind.wrap_i64]; omega
 have wB0:IntKind.i64.wrap (B:Int)=(A:Int)∨True:=.inr trivial
 have wA:IntKind.i64.wrap ((A:Int)+4)=(A:Int)+4:=by rw [IntKind.wrap_i64]; omega
 have b0:(0:Int)≤(A:Int):=by omega
 have b1:(A:Int)≤(A:Int)+4:=by omega
 have b2:(A:Int)+4≤(sc:Int):=by omega
 have b3:((A:Int)+4).toNat=A+4:=by omega
 have HC:=hid_of hC
 have HS:=hid_of hs
 have HV:=hid_of hV
 have HCN:=hid_of hcn
 have H0:Hid (PBox w (w.alloc (.cells #[.int .i64 hw,.int .i64 hh,.int .i64 (d:Int),.int .i64 6,.bool lace,.slice ta tn tc,.slice ca cn cc,.int .i64 rw',.int .i64 rh,.int .i64 rc,.int .i64 rd,.slice (some ⟨g,off,none⟩) sn sc,.slice ka kn kc] 37)) #[.int .i64 hw,.int .i64 hh,.int .i64 (d:Int),.int .i64 6,.bool lace,.slice ta tn tc,.slice ca cn cc,.int .i64 rw',.int .i64 rh,.int .i64 rc,.int .i64 rd,.slice (some ⟨g,off,none⟩) sn sc,.slice ka kn kc]):=⟨heap_alloc_new w _,bstart w _⟩
 have hc0:decide ((0:Int) < (cn:Int))=clB cn C s 0:=by simp [clB]
 have hc0':decide (0 < cn)=clB cn C s 0:=by simp [clB]
 clear hM hV hC hs hcn wB0 hAB
 go_enter Tryz.func56,Tryz.ntmps56
 go_wp2_with fail
 refine (hch _).mono ?_
 rintro e w1 ⟨rfl,q⟩
 obtain rfl:=q
 go_wp2_with fail
 refine (hpw _).mono ?_
 rintro e w2 ⟨rfl,q⟩
 obtain rfl:=q
 go_wp2_with fail
 have H1:Hid (SpI w #[.int .i64 hw,.int .i64 hh,.int .i64 (d:Int),.int .i64 6,.bool lace,.slice ta tn tc,.slice ca cn cc,.int .i64 rw',.int .i64 rh,.int .i64 rc,.int .i64 rd,.slice (some ⟨g,off,none⟩) sn sc,.slice ka kn kc] (w.heap.size+1) 0 V 0 ((w.alloc (.cells #[.int .i64 hw,.int .i64 hh,.int .i64 (d:Int),.int .i64 6,.bool lace,.slice ta tn tc,.slice ca cn cc,.int .i64 rw',.int .i64 rh,.int .i64 rc,.int .i64 rd,.slice (some ⟨g,off,none⟩) sn sc,.slice ka kn kc] 37)).alloc (.cells #[] 3))):=by
  refine⟨H0.out.called (bstart _ _),0,#[],(0,0),rfl,Nat.le_refl _,?_,.inl rfl,Nat.le_refl _,Nat.zero_le _,rfl,rfl⟩
  show ((w.heap.push _).push _)[w.heap.size+1]?=_
  rw[Array.getElem?_push,if_pos (by simp)]
 clear H0 hpw hch wB wA b1 b2 b3 hc0 hc0'
 go_loopw [10,11,12] (fun v b i X=>∃ j gv cap:Nat,j≤4∧v=.slice (some ⟨gv,0,none⟩) j cap∧b=.bool (clB cn C s j)∧i=.int .i64 (j:Int)∧Hid (SpI w #[.int .i64 hw,.int .i64 hh,.int .i64 (d:Int),.int .i64 6,.bool lace,.slice ta tn tc,.slice ca cn cc,.int .i64 rw',.int .i64 rh,.int .i64 rc,.int .i64 rd,.slice (some ⟨g,off,none⟩) sn sc,.slice ka kn kc] gv cap V j X)) (fun _ _ i _=>4 - (intOf i).toNat)
 case atStart=>exact⟨0,w.heap.size+1,0,Nat.zero_le _,rfl,rfl,rfl,H1⟩
 case round=>
  clear H1
  obtain⟨j,gv,cap,hj,rfl,rfl,rfl,hI⟩:=hrel
  by_cases hlt:j < 4
  ·obtain⟨hsj,hs0,hs1⟩:=HS.out j hlt
   have c0:=(hI.out.1.2.cell (p:=⟨g,off+A+j,none⟩) hg).trans hsj
   have hg2:g < wr.heap.size:=Nat.lt_of_lt_of_le hg hI.out.1.2.size
   have hVj:V j=s j * mulD d:=by rw [HV.out]
   have q1:(s j * 65535).tdiv (M - 1)=V j:=by
    rw[Int.tdiv_eq_ediv_of_nonneg (by omega),HW.out,hVj]
   have hVb:0≤V j∧V j≤65535 * 65535:=by
    rw[hVj]
    exact⟨Int.mul_nonneg hs0 (by have:=HM.out.1; omega),Int.mul_le_mul hs1 HM.out.2.1 (by have:=HM.out.1; omega) (by omega)⟩
   have wm:IntKind.i64.wrap (s j * 65535)=s j * 65535:=by rw [IntKind.wrap_i64]; omega
   have wv:IntKind.i64.wrap (V j)=V j:=by rw [IntKind.wrap_i64]; omega
   have hj0:(0:Int)≤(j:Int):=by omega
   have hj1:(j:Int) < 4:=by omega
   have dj:decide ((j:Int) < 4)=true:=decide_eq_true hj1
   have hnx:=clB_next cn C s j
   have HNX:=hid_of hnx
   have HFA:Hid (fints V j ++ [.int .i64 (V j)]=fints V (j+1)):=by
    show _=_
    unfold fints
    rw[List.range_succ,List.map_append]
    rfl
   obtain⟨x,hx⟩:∃ x,x=s j:=⟨_,rfl⟩
   obtain⟨y,hy⟩:∃ y,y=V j:=⟨_,rfl⟩
   rw[← hx] at c0 q1 wm
   rw[← hy] at q1 wv HFA
   have HX:=hid_of hx
   clear hx hy hVj hVb hs0 hs1 hsj hnx
   obtain⟨i0,hi0,hz0,hz1,hz2⟩:=info_parts info_int18
   have hl1:(fints V j).length+1≤maxLen∧((fints V j).length+1) * 8≤140737488355328:=by rw [fints_length]; unfold maxLen; omega
   go_wp2_with (at_builtin; refine wpList_append1 rfl _ _ 25 rfl i0 (.int .i64 0) 8 Tryz.underlying25 hi0 hz0 hz1 hz2 rfl rfl (hI.out.2.alloc _) ⟨wr.heap.size,0,none⟩ 1 (.int .i64 y) rfl ?c1 rfl rfl hl1.1 hl1.2 ?_)
   case c1=>simp
   ·intro g2 u2 w3 hO3 hg3 hgr3
    obtain⟨cap2,hu2⟩:=hO3.form
    rw[HFA.out] at hO3 hu2
    rw[fints_length] at hu2
    subst hu2
    have hgv:=hI.out.2.base_le
    have HI3:Hid (SpI w #[.int .i64 hw,.int .i64 hh,.int .i64 (d:Int),.int .i64 6,.bool lace,.slice ta tn tc,.slice ca cn cc,.int .i64 rw',.int .i64 rh,.int .i64 rc,.int .i64 rd,.slice (some ⟨g,off,none⟩) sn sc,.slice ka kn kc] g2 cap2 V (j+1) w3):=by
     refine⟨⟨(hgr3.block _ (by have:=block_lt hI.out.1.1; simp; omega) (fun e=>by cases e; omega)).trans (((bstart wr _).block _ (block_lt hI.out.1.1)).trans hI.out.1.1),(bal hI.out.1.2 _).grown hgr3 (by have:=hI.out.1.2.size; simp; omega) (fun q hq=>by cases hq; omega)⟩,?_⟩
     show Own 3 w3 (w.heap.size+1) g2 (.slice (some ⟨g2,0,none⟩) (j+1) cap2) (fints V (j+1))
     exact hO3
    have k0:=(HI3.out.1.2.cell (p:=⟨g,off+A+j,none⟩) hg).trans (HS.out j hlt).1
    rw[← HX.out] at k0
    have kl:=block_lt HI3.out.1.1
    have kg:g < w3.heap.size:=Nat.lt_of_lt_of_le hg HI3.out.1.2.size
    have a6:=(cell_of_block HI3.out.1.1 6).trans rfl
    clear hO3 hg3 hgr3 hgv c0 hg2 hI hi0 hz0 hz1 hz2 q1 wm wv
    generalize hq:clB cn C s j=cb
    have HQ:=hid_of hq
    clear hq
    cases cb
    ·have HN:Hid (clB cn C s (j+1)=false):=by show _=_; rw [HNX.out,HQ.out]; rfl
     go_wp2_with fail
     go_quiet (fail)
     have HI4:=hid_of (HI3.out.called (bdraws (Below.refl _ _) nq))
     clear HI3 k0 kl kg a6
     go_wp2_with fail
     go_roundw
     case rel=>exact⟨j+1,g2,cap2,by omega,rfl,by rw [HN.out],by go_num,HI4⟩
     case measure=>simp [intOf]; omega
    ·have hcnn:cn=4:=by
      rcases HCN.out with h | h
      ·have:=HQ.out
       unfold clB at this
       rw[h] at this
       simp at this
      ·exact h
     rcases HC.out.called HI3.out.1.2 with h0 | ⟨gc,oc,rfl,hgc,hcc⟩
     ·omega
     have c1:=hcc j (by omega)
     have r1:(j:Int) < (cn:Int):=by omega
     have HN:Hid (clB cn C s (j+1)=decide (C j=x)):=by show _=_; rw [HNX.out,HQ.out,HX.out]; rfl
     obtain⟨cj,hcj⟩:∃ cj,cj=C j:=⟨_,rfl⟩
     rw[← hcj] at c1 HN
     clear hcc hcj hcnn
     by_cases he:cj=x
     ·have de:(cj == x)=true:=by simpa using he
      have HN2:Hid (clB cn C s (j+1)=true):=by show _=_; rw [HN.out,decide_eq_true he]
      clear he HN
      go_wp2_with fail
      go_quiet (fail)
      have HI4:=hid_of (HI3.out.called (bdraws (Below.refl _ _) nq))
      clear HI3 k0 kl kg a6 c1
      go_wp2_with fail
      go_roundw
      case rel=>exact⟨j+1,g2,cap2,by omega,rfl,by rw [HN2.out],by go_num,HI4⟩
      case measure=>simp [intOf]; omega
     ·have de:(cj == x)=false:=by simpa using he
      have HN2:Hid (clB cn C s (j+1)=false):=by show _=_; rw [HN.out,decide_eq_false he]
      clear he HN
      go_wp2_with fail
      go_quiet (fail)
      have HI4:=hid_of (HI3.out.called (bdraws (Below.refl _ _) nq))
      clear HI3 k0 kl kg a6 c1
      go_wp2_with fail
      go_roundw
      case rel=>exact⟨j+1,g2,cap2,by omega,rfl,by rw [HN2.out],by go_num,HI4⟩
      case measure=>simp [intOf]; omega
  ·obtain rfl:j=4:=by omega
   have dj:decide (((4:Nat):Int) < 4)=false:=by decide
   have HI:=hid_of hI.out
   clear hI hj hlt
   cases hq:clB cn C s 4
   ·go_wp2_with fail
    go_ret
    refine⟨gv,cap,rfl,fun k hk=>?_,HI.out.2.lt,HI.out.1.2,by have:=HI.out.2.base_le; omega⟩
    rw[HI.out.2.cell k (by omega),HV.out]
   ·go_wp2_with fail
    go_ret
    refine⟨gv,cap,rfl,fun k hk=>?_,HI.out.2.lt,HI.out.1.2,by have:=HI.out.2.base_le; omega⟩
    rw[HI.out.2.cell k (by omega),HV.out]
end Go.Proofs.YtkpbfmdnjnohlaaGreat
