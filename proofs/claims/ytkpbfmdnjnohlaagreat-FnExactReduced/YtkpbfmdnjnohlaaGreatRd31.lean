/-
  Texts of the proof, put together.
-/
import Derived.Test.YtkpbfmdnjnohlaaGreatRd22
import Derived.Test.YtkpbfmdnjnohlaaGreatRd30
namespace Go.Proofs.YtkpbfmdnjnohlaaGreat
open Go.RowKit Go.Joins OutMath PutMath RastMath HeadMath
def MtS (w:World) (A:Array Value) (ta:Option Addr) (tn:Nat) (T:Nat→Rgb3) (ca:Option Addr) (cn:Nat) (C:Nat→Int) (a:Option Addr) (n:Nat) (s:Nat→Int) (u:World):Prop:=u.heap[w.heap.size]?=some (.cells A 37 (0,0))∧(∃ Z,u.heap[w.heap.size+1]?=some (.cells Z 104 (0,0))∧Z.size=4)∧Below w.heap.size w u∧RgbCame w ta tn T∧Came w ca cn C∧Came w a n s
theorem MtS.called {w u u':World} {A:Array Value} {ta ca a:Option Addr} {tn cn n:Nat} {T:Nat→Rgb3} {C s:Nat→Int} (h:MtS w A ta tn T ca cn C a n s u) (hb:Below u.heap.size u u'):MtS w A ta tn T ca cn C a n s u':=by
 obtain⟨h1,⟨Z,h2,hz⟩,h3,h4,h5,h6⟩:=h
 exact⟨(hb.block _ (block_lt h1)).trans h1,⟨Z,(hb.block _ (block_lt h2)).trans h2,hz⟩,bnext h3 hb,h4,h5,h6⟩
theorem MtS.set {w u:World} {A:Array Value} {ta ca a:Option Addr} {tn cn n:Nat} {T:Nat→Rgb3} {C s:Nat→Int} (h:MtS w A ta tn T ca cn C a n s u) (k:Nat) (v:Value):MtS w A ta tn T ca cn C a n s (u.setCell ⟨w.heap.size+1,k,none⟩ v):=by
 obtain⟨h1,⟨Z,h2,hz⟩,h3,h4⟩:=h
 refine⟨?_,⟨Z.setIfInBounds k v,?_,by simpa using hz⟩,h3.setCell (p:=⟨w.heap.size+1,k,none⟩) (by simp) v,h4⟩
 ·rw[Below.heap_setCell _ _ _ _ (by simp)]; exact h1
 ·simp[World.setCell,Array.getElem?_modify,h2]
def MeantPost (v:Nat→Int) (w:World) (e:Ending) (w':World):Prop:=e=.returned (.agg (four v))∧Below w.heap.size w w'
theorem four_congr {v v':Nat→Int} (h:∀ k,k < 4→v k=v' k):four v=four v':=by
 unfold four
 rw[h 0 (by omega),h 1 (by omega),h 2 (by omega),h 3 (by omega)]
set_option maxRecDepth 100000 in
set_option maxHeartbeats 1600000 in
theorem meant_4 (hw hh:Int) (d:Nat) (lace:Bool) (tn:Nat) (T:Nat→Rgb3) (cn:Nat) (C:Nat→Int) (rw' rh rc rd:Int) (sn:Nat) (kn:Nat) (ta ca sa ka:Option Addr) (tc cc sc kc:Nat) (a:Option Addr) (cap:Nat) (s:Nat→Int) (w:World) (hT:RgbCame w ta tn T) (hC:Came w ca cn C) (hS:Came w a 2 s) (hd:Five (d:Int)) (hcap:2≤cap) (hs:∀ i,i < 2→0≤s i∧s i≤65535):
  Calls Tryz.prog 82 #[.agg #[.int .i64 hw,.int .i64 hh,.int .i64 (d:Int),.int .i64 4,.bool lace,.slice ta tn tc,.slice ca cn cc,.int .i64 rw',.int .i64 rh,.int .i64 rc,.int .i64 rd,.slice sa sn sc,.slice ka kn kc],.slice a 2 cap] w (MeantPost (fun k=>(if k < 3 then s 0 else s 1) * mulD d) w):=by
 have hsa:Hid (Came w a 2 s):=hS
 obtain⟨g,off,ha,hg,hcell⟩:∃ g off,a=some ⟨g,off,none⟩∧g < w.heap.size∧∀ j,j < 2→w.cell? ⟨g,off+j,none⟩=some (.int .i64 (s j)):=by
  rcases hS with h | h
  ·omega
  ·exact h
 subst ha
 have hpx:=fun W (h:Came W (some ⟨g,off,none⟩) 1 s)=>pixelOf_any (some ⟨g,off,none⟩) 1 cap d s (s 1) W h (by omega) hd (fun i hi=>hs i (by omega)) (hs 1 (by omega)).1 (hs 1 (by omega)).2
 have HX:Hid (MtS w #[.int .i64 hw,.int .i64 hh,.int .i64 (d:Int),.int .i64 4,.bool lace,.slice ta tn tc,.slice ca cn cc,.int .i64 rw',.int .i64 rh,.int .i64 rc,.int .i64 rd,.slice sa sn sc,.slice ka kn kc] ta tn T ca cn C (some ⟨g,off,none⟩) 2 s ((w.alloc (.cells #[.int .i64 hw,.int .i64 hh,.int .i64 (d:Int),.int .i64 4,.bool lace,.slice ta tn tc,.slice ca cn cc,.int .i64 rw',.int .i64 rh,.int .i64 rc,.int .i64 rd,.slice sa sn sc,.slice ka kn kc] 37)).alloc (.cells #[.int .i64 0,.int .i64 0,.int .i64 0,.int .i64 0] 104))):=by
  have hb:Below w.heap.size w ((w.alloc (.cells #[.int .i64 hw,.int .i64 hh,.int .i64 (d:Int),.int .i64 4,.bool lace,.slice ta tn tc,.slice ca cn cc,.int .i64 rw',.int .i64 rh,.int .i64 rc,.int .i64 rd,.slice sa sn sc,.slice ka kn kc] 37)).alloc (.cells #[.int .i64 0,.int .i64 0,.int .i64 0,.int .i64 0] 104)):=bal (bstart _ _) _
  refine⟨?_,⟨#[.int .i64 0,.int .i64 0,.int .i64 0,.int .i64 0],?_,rfl⟩,hb,hT,hC,hS⟩
  ·show ((w.heap.push _).push _)[w.heap.size]?=_
   rw[Array.getElem?_push,if_neg (by simp),Array.getElem?_push,if_pos (by simp)]
  ·show ((w.heap.push _).push _)[w.heap.size+1]?=_
   rw[Array.getElem?_push,if_pos (by simp)]
 clear hT hC hS
 have HSL:Hid (∀ u,MtS w #[.int .i64 hw,.int .i64 hh,.int .i64 (d:Int),.int .i64 4,.bool lace,.slice ta tn tc,.slice ca cn cc,.int .i64 rw',.int .i64 rh,.int .i64 rc,.int .i64 rd,.slice sa sn sc,.slice ka kn kc] ta tn T ca cn C (some ⟨g,off,none⟩) 2 s u→Came u (some ⟨g,off,none⟩) 1 s∧u.cell? ⟨g,off+1,none⟩=some (.int .i64 (s 1))):=fun u hu=>by
  rcases hu.2.2.2.2.2.called hu.2.2.1 with h | ⟨g',o',e,h1,h2⟩
  ·omega
  ·cases e
   exact⟨.inr ⟨g,off,rfl,h1,fun j hj=>h2 j (by omega)⟩,h2 1 (by omega)⟩
 clear hcell hsa hs
 have l0:=block_lt HX.out.1
 go_enter Tryz.func82,Tryz.ntmps82
 have hl1:(1:Int)≤(cap:Int):=by omega
 go_wp2_with fail
 have HS0:MtS w #[.int .i64 hw,.int .i64 hh,.int .i64 (d:Int),.int .i64 4,.bool lace,.slice ta tn tc,.slice ca cn cc,.int .i64 rw',.int .i64 rh,.int .i64 rc,.int .i64 rd,.slice sa sn sc,.slice ka kn kc] ta tn T ca cn C (some ⟨g,off,none⟩) 2 s ((w.alloc (.cells #[.int .i64 hw,.int .i64 hh,.int .i64 (d:Int),.int .i64 4,.bool lace,.slice ta tn tc,.slice ca cn cc,.int .i64 rw',.int .i64 rh,.int .i64 rc,.int .i64 rd,.slice sa sn sc,.slice ka kn kc] 37)).alloc (.cells #[.int .i64 0,.int .i64 0,.int .i64 0,.int .i64 0] 104)).drew:=HX.out.called (bdraws (Below.refl _ _) 1)
 clear HX l0
 refine wp_region_held (S:=MtS w #[.int .i64 hw,.int .i64 hh,.int .i64 (d:Int),.int .i64 4,.bool lace,.slice ta tn tc,.slice ca cn cc,.int .i64 rw',.int .i64 rh,.int .i64 rc,.int .i64 rd,.slice sa sn sc,.slice ka kn kc] ta tn T ca cn C (some ⟨g,off,none⟩) 2 s) (by kernel_rfl) ?_
 show wpAnyH _ _ _ _ _ _ _ _ ((w.alloc _).alloc _).drew
 generalize ((w.alloc _).alloc _).drew=u0 at HS0 ⊢
 refine zqt 0 (.slice (some ⟨g,off,none⟩) 2 cap) rfl ?_ HS0 ?_
 ·intro w' _
  go_simp
 simp only [Act.put,zga,zgb,zsa,zsb,zsc]
 refine zqt 1 (.int .i64 1) rfl ?_ HS0 ?_
 ·intro w' _
  go_simp
 simp only [Act.put,zga,zgb,zgc,zsa,zsb,zsc]
 refine zqt 2 (.slice (some ⟨g,off,none⟩) 1 cap) rfl ?_ HS0 ?_
 ·intro w' _
  go_simp
 simp only [Act.put,zga,zgb,zgc,zsa,zsb,zsc]
 refine zqt 3 (.slice (some ⟨g,off,none⟩) 2 cap) rfl ?_ HS0 ?_
 ·intro w' _
  go_simp
 simp only [Act.put,zga,zgb,zgc,zsa,zsb,zsc]
 refine zqt 4 (.int .i64 1) rfl ?_ HS0 ?_
 ·intro w' _
  go_simp
 simp only [Act.put,zga,zgb,zgc,zsa,zsb,zsc]
 refine zqt 5 (.pointer (some ⟨g,off+1,none⟩)) rfl ?_ HS0 ?_
 ·intro w' _
  go_simp
 simp only [Act.put,zga,zgb,zgc,zsa,zsb,zsc]
 refine zqt 6 (.int .i64 (s 1)) rfl ?_ HS0 ?_
 ·intro w' hS
  obtain⟨_,c0⟩:=HSL.out _ hS
  go_simp
 simp only [Act.put,zga,zgb,zgc,zsa,zsb,zsc]
 refine zqt 7 (.int .i64 (d:Int)) rfl ?_ HS0 ?_
 ·intro w' _
  go_simp
 simp only [Act.put,zga,zgb,zgc,zsa,zsb,zsc]
 refine zqr 8 rfl (fun K1 hK=>?_)
 refine if_wanted (wanted_none rfl) ?_
 simp only [zga,zgb,zgc]
 go_simp
 refine (hpx _ (HSL.out _ HS0).1).mono ?_
 rintro e u1 ⟨rfl,hB⟩
 have HT:=HS0.called hB
 refine hK.out _ _ HT (fun HS1=>?_)
 clear hK hB HT
 simp only [four] at *
 obtain⟨Z,hZ,hZs⟩:=HS1.2.1
 obtain⟨p0,z0⟩:∃ q,u1.cell? ⟨w.heap.size+1,0,none⟩=some q:=⟨Z[0]'(by omega),(cell_of_block hZ 0).trans (Array.getElem?_eq_getElem (by omega))⟩
 obtain⟨p1,z1⟩:∃ q,u1.cell? ⟨w.heap.size+1,1,none⟩=some q:=⟨Z[1]'(by omega),(cell_of_block hZ 1).trans (Array.getElem?_eq_getElem (by omega))⟩
 obtain⟨p2,z2⟩:∃ q,u1.cell? ⟨w.heap.size+1,2,none⟩=some q:=⟨Z[2]'(by omega),(cell_of_block hZ 2).trans (Array.getElem?_eq_getElem (by omega))⟩
 obtain⟨p3,z3⟩:∃ q,u1.cell? ⟨w.heap.size+1,3,none⟩=some q:=⟨Z[3]'(by omega),(cell_of_block hZ 3).trans (Array.getElem?_eq_getElem (by omega))⟩
 have zf:∀ k,u1.frozen? ⟨w.heap.size+1,k,none⟩=false:=unfrozen_of_block hZ
 have zl:=block_lt hZ
 have HF:Hid (MtS w #[.int .i64 hw,.int .i64 hh,.int .i64 (d:Int),.int .i64 4,.bool lace,.slice ta tn tc,.slice ca cn cc,.int .i64 rw',.int .i64 rh,.int .i64 rc,.int .i64 rd,.slice sa sn sc,.slice ka kn kc] ta tn T ca cn C (some ⟨g,off,none⟩) 2 s ((((u1.setCell ⟨w.heap.size+1,0,none⟩ (.int .i64 (colN3 1 s (s 1) 0 * mulD d))).setCell ⟨w.heap.size+1,1,none⟩ (.int .i64 (colN3 1 s (s 1) 1 * mulD d))).setCell ⟨w.heap.size+1,2,none⟩ (.int .i64 (colN3 1 s (s 1) 2 * mulD d))).setCell ⟨w.heap.size+1,3,none⟩ (.int .i64 (colN3 1 s (s 1) 3 * mulD d)))):=(((HS1.set 0 _).set 1 _).set 2 _).set 3 _
 clear hZ hZs HS0
 generalize hv0:colN3 1 s (s 1) 0 * mulD d=v0 at HF ⊢
 generalize hv1:colN3 1 s (s 1) 1 * mulD d=v1 at HF ⊢
 generalize hv2:colN3 1 s (s 1) 2 * mulD d=v2 at HF ⊢
 generalize hv3:colN3 1 s (s 1) 3 * mulD d=v3 at HF ⊢
 have HV:=hid_of (And.intro hv0 (And.intro hv1 (And.intro hv2 hv3)))
 clear hv0 hv1 hv2 hv3
 refine zqr 9 rfl (fun K1 hK=>?_)
 refine if_wanted (wanted_none rfl) ?_
 simp only [zga,zgb,zgc]
 go_simp
 refine hK.out _ _ HF.out (fun HS2=>?_)
 clear hK
 refine wpAnyH_done (by kernel_rfl) ?_ _
 clear HS2 HS1
 go_wp2_with fail
 refine bodyPost_ret (v:=.agg #[.int .i64 v0,.int .i64 v1,.int .i64 v2,.int .i64 v3]) ?_ rfl ⟨?_,HF.out.2.2.1⟩
 ·simp[results,Tryz.results82,go_sem, *]
 ·obtain⟨h0,h1,h2,h3⟩:=HV.out
  rw[← h0,← h1,← h2,← h3]
  rfl
set_option maxRecDepth 100000 in
set_option maxHeartbeats 1600000 in
theorem meant_6 (hw hh:Int) (d:Nat) (lace:Bool) (tn:Nat) (T:Nat→Rgb3) (cn:Nat) (C:Nat→Int) (rw' rh rc rd:Int) (sn:Nat) (kn:Nat) (ta ca sa ka:Option Addr) (tc cc sc kc:Nat) (a:Option Addr) (cap:Nat) (s:Nat→Int) (w:World) (hT:RgbCame w ta tn T) (hC:Came w ca cn C) (hS:Came w a 4 s) (hd:Five (d:Int)) (hcap:4≤cap) (hs:∀ i,i < 4→0≤s i∧s i≤65535):
  Calls Tryz.prog 82 #[.agg #[.int .i64 hw,.int .i64 hh,.int .i64 (d:Int),.int .i64 6,.bool lace,.slice ta tn tc,.slice ca cn cc,.int .i64 rw',.int .i64 rh,.int .i64 rc,.int .i64 rd,.slice sa sn sc,.slice ka kn kc],.slice a 4 cap] w (MeantPost (fun k=>(s k) * mulD d) w):=by
 have hsa:Hid (Came w a 4 s):=hS
 obtain⟨g,off,ha,hg,hcell⟩:∃ g off,a=some ⟨g,off,none⟩∧g < w.heap.size∧∀ j,j < 4→w.cell? ⟨g,off+j,none⟩=some (.int .i64 (s j)):=by
  rcases hS with h | h
  ·omega
  ·exact h
 subst ha
 have hpx:=fun W (h:Came W (some ⟨g,off,none⟩) 3 s)=>pixelOf_any (some ⟨g,off,none⟩) 3 cap d s (s 3) W h (by omega) hd (fun i hi=>hs i (by omega)) (hs 3 (by omega)).1 (hs 3 (by omega)).2
 have HX:Hid (MtS w #[.int .i64 hw,.int .i64 hh,.int .i64 (d:Int),.int .i64 6,.bool lace,.slice ta tn tc,.slice ca cn cc,.int .i64 rw',.int .i64 rh,.int .i64 rc,.int .i64 rd,.slice sa sn sc,.slice ka kn kc] ta tn T ca cn C (some ⟨g,off,none⟩) 4 s ((w.alloc (.cells #[.int .i64 hw,.int .i64 hh,.int .i64 (d:Int),.int .i64 6,.bool lace,.slice ta tn tc,.slice ca cn cc,.int .i64 rw',.int .i64 rh,.int .i64 rc,.int .i64 rd,.slice sa sn sc,.slice ka kn kc] 37)).alloc (.cells #[.int .i64 0,.int .i64 0,.int .i64 0,.int .i64 0] 104))):=by
  have hb:Below w.heap.size w ((w.alloc (.cells #[.int .i64 hw,.int .i64 hh,.int .i64 (d:Int),.int .i64 6,.bool lace,.slice ta tn tc,.slice ca cn cc,.int .i64 rw',.int .i64 rh,.int .i64 rc,.int .i64 rd,.slice sa sn sc,.slice ka kn kc] 37)).alloc (.cells #[.int .i64 0,.int .i64 0,.int .i64 0,.int .i64 0] 104)):=bal (bstart _ _) _
  refine⟨?_,⟨#[.int .i64 0,.int .i64 0,.int .i64 0,.int .i64 0],?_,rfl⟩,hb,hT,hC,hS⟩
  ·show ((w.heap.push _).push _)[w.heap.size]?=_
   rw[Array.getElem?_push,if_neg (by simp),Array.getElem?_push,if_pos (by simp)]
  ·show ((w.heap.push _).push _)[w.heap.size+1]?=_
   rw[Array.getElem?_push,if_pos (by simp)]
 clear hT hC hS
 have HSL:Hid (∀ u,MtS w #[.int .i64 hw,.int .i64 hh,.int .i64 (d:Int),.int .i64 6,.bool lace,.slice ta tn tc,.slice ca cn cc,.int .i64 rw',.int .i64 rh,.int .i64 rc,.int .i64 rd,.slice sa sn sc,.slice ka kn kc] ta tn T ca cn C (some ⟨g,off,none⟩) 4 s u→Came u (some ⟨g,off,none⟩) 3 s∧u.cell? ⟨g,off+3,none⟩=some (.int .i64 (s 3))):=fun u hu=>by
  rcases hu.2.2.2.2.2.called hu.2.2.1 with h | ⟨g',o',e,h1,h2⟩
  ·omega
  ·cases e
   exact⟨.inr ⟨g,off,rfl,h1,fun j hj=>h2 j (by omega)⟩,h2 3 (by omega)⟩
 clear hcell hsa hs
 have l0:=block_lt HX.out.1
 go_enter Tryz.func82,Tryz.ntmps82
 have hl1:(3:Int)≤(cap:Int):=by omega
 go_wp2_with fail
 have HS0:MtS w #[.int .i64 hw,.int .i64 hh,.int .i64 (d:Int),.int .i64 6,.bool lace,.slice ta tn tc,.slice ca cn cc,.int .i64 rw',.int .i64 rh,.int .i64 rc,.int .i64 rd,.slice sa sn sc,.slice ka kn kc] ta tn T ca cn C (some ⟨g,off,none⟩) 4 s ((w.alloc (.cells #[.int .i64 hw,.int .i64 hh,.int .i64 (d:Int),.int .i64 6,.bool lace,.slice ta tn tc,.slice ca cn cc,.int .i64 rw',.int .i64 rh,.int .i64 rc,.int .i64 rd,.slice sa sn sc,.slice ka kn kc] 37)).alloc (.cells #[.int .i64 0,.int .i64 0,.int .i64 0,.int .i64 0] 104)).drew:=HX.out.called (bdraws (Below.refl _ _) 1)
 clear HX l0
 refine wp_region_held (S:=MtS w #[.int .i64 hw,.int .i64 hh,.int .i64 (d:Int),.int .i64 6,.bool lace,.slice ta tn tc,.slice ca cn cc,.int .i64 rw',.int .i64 rh,.int .i64 rc,.int .i64 rd,.slice sa sn sc,.slice ka kn kc] ta tn T ca cn C (some ⟨g,off,none⟩) 4 s) (by kernel_rfl) ?_
 show wpAnyH _ _ _ _ _ _ _ _ ((w.alloc _).alloc _).drew
 generalize ((w.alloc _).alloc _).drew=u0 at HS0 ⊢
 refine zqt 0 (.slice (some ⟨g,off,none⟩) 4 cap) rfl ?_ HS0 ?_
 ·intro w' _
  go_simp
 simp only [Act.put,zga,zgb,zsa,zsb,zsc]
 refine zqt 1 (.int .i64 3) rfl ?_ HS0 ?_
 ·intro w' _
  go_simp
 simp only [Act.put,zga,zgb,zgc,zsa,zsb,zsc]
 refine zqt 2 (.slice (some ⟨g,off,none⟩) 3 cap) rfl ?_ HS0 ?_
 ·intro w' _
  go_simp
 simp only [Act.put,zga,zgb,zgc,zsa,zsb,zsc]
 refine zqt 3 (.slice (some ⟨g,off,none⟩) 4 cap) rfl ?_ HS0 ?_
 ·intro w' _
  go_simp
 simp only [Act.put,zga,zgb,zgc,zsa,zsb,zsc]
 refine zqt 4 (.int .i64 3) rfl ?_ HS0 ?_
 ·intro w' _
  go_simp
 simp only [Act.put,zga,zgb,zgc,zsa,zsb,zsc]
 refine zqt 5 (.pointer (some ⟨g,off+3,none⟩)) rfl ?_ HS0 ?_
 ·intro w' _
  go_simp
 simp only [Act.put,zga,zgb,zgc,zsa,zsb,zsc]
 refine zqt 6 (.int .i64 (s 3)) rfl ?_ HS0 ?_
 ·intro w' hS
  obtain⟨_,c0⟩:=HSL.out _ hS
  go_simp
 simp only [Act.put,zga,zgb,zgc,zsa,zsb,zsc]
 refine zqt 7 (.int .i64 (d:Int)) rfl ?_ HS0 ?_
 ·intro w' _
  go_simp
 simp only [Act.put,zga,zgb,zgc,zsa,zsb,zsc]
 refine zqr 8 rfl (fun K1 hK=>?_)
 refine if_wanted (wanted_none rfl) ?_
 simp only [zga,zgb,zgc]
 go_simp
 refine (hpx _ (HSL.out _ HS0).1).mono ?_
 rintro e u1 ⟨rfl,hB⟩
 have HT:=HS0.called hB
 refine hK.out _ _ HT (fun HS1=>?_)
 clear hK hB HT
 simp only [four] at *
 obtain⟨Z,hZ,hZs⟩:=HS1.2.1
 obtain⟨p0,z0⟩:∃ q,u1.cell? ⟨w.heap.size+1,0,none⟩=some q:=⟨Z[0]'(by omega),(cell_of_block hZ 0).trans (Array.getElem?_eq_getElem (by omega))⟩
 obtain⟨p1,z1⟩:∃ q,u1.cell? ⟨w.heap.size+1,1,none⟩=some q:=⟨Z[1]'(by omega),(cell_of_block hZ 1).trans (Array.getElem?_eq_getElem (by omega))⟩
 obtain⟨p2,z2⟩:∃ q,u1.cell? ⟨w.heap.size+1,2,none⟩=some q:=⟨Z[2]'(by omega),(cell_of_block hZ 2).trans (Array.getElem?_eq_getElem (by omega))⟩
 obtain⟨p3,z3⟩:∃ q,u1.cell? ⟨w.heap.size+1,3,none⟩=some q:=⟨Z[3]'(by omega),(cell_of_block hZ 3).trans (Array.getElem?_eq_getElem (by omega))⟩
 have zf:∀ k,u1.frozen? ⟨w.heap.size+1,k,none⟩=false:=unfrozen_of_block hZ
 have zl:=block_lt hZ
 have HF:Hid (MtS w #[.int .i64 hw,.int .i64 hh,.int .i64 (d:Int),.int .i64 6,.bool lace,.slice ta tn tc,.slice ca cn cc,.int .i64 rw',.int .i64 rh,.int .i64 rc,.int .i64 rd,.slice sa sn sc,.slice ka kn kc] ta tn T ca cn C (some ⟨g,off,none⟩) 4 s ((((u1.setCell ⟨w.heap.size+1,0,none⟩ (.int .i64 (colN3 3 s (s 3) 0 * mulD d))).setCell ⟨w.heap.size+1,1,none⟩ (.int .i64 (colN3 3 s (s 3) 1 * mulD d))).setCell ⟨w.heap.size+1,2,none⟩ (.int .i64 (colN3 3 s (s 3) 2 * mulD d))).setCell ⟨w.heap.size+1,3,none⟩ (.int .i64 (colN3 3 s (s 3) 3 * mulD d)))):=(((HS1.set 0 _).set 1 _).set 2 _).set 3 _
 clear hZ hZs HS0
 generalize hv0:colN3 3 s (s 3) 0 * mulD d=v0 at HF ⊢
 generalize hv1:colN3 3 s (s 3) 1 * mulD d=v1 at HF ⊢
 generalize hv2:colN3 3 s (s 3) 2 * mulD d=v2 at HF ⊢
 generalize hv3:colN3 3 s (s 3) 3 * mulD d=v3 at HF ⊢
 have HV:=hid_of (And.intro hv0 (And.intro hv1 (And.intro hv2 hv3)))
 clear hv0 hv1 hv2 hv3
 refine zqr 9 rfl (fun K1 hK=>?_)
 refine if_wanted (wanted_none rfl) ?_
 simp only [zga,zgb,zgc]
 go_simp
 refine hK.out _ _ HF.out (fun HS2=>?_)
 clear hK
 refine wpAnyH_done (by kernel_rfl) ?_ _
 clear HS2 HS1
 go_wp2_with fail
 refine bodyPost_ret (v:=.agg #[.int .i64 v0,.int .i64 v1,.int .i64 v2,.int .i64 v3]) ?_ rfl ⟨?_,HF.out.2.2.1⟩
 ·simp[results,Tryz.results82,go_sem, *]
 ·obtain⟨h0,h1,h2,h3⟩:=HV.out
  rw[← h0,← h1,← h2,← h3]
  rfl
set_option maxRecDepth 100000 in
set_option maxHeartbeats 1600000 in
theorem meant_0 (hw hh:Int) (d:Nat) (lace:Bool) (tn:Nat) (T:Nat→Rgb3) (cn:Nat) (C:Nat→Int) (rw' rh rc rd:Int) (sn:Nat) (kn:Nat) (ta ca sa ka:Option Addr) (tc cc sc kc:Nat) (a:Option Addr) (cap:Nat) (s:Nat→Int) (w:World) (hT:RgbCame w ta tn T) (hC:Came w ca cn C) (hS:Came w a 1 s) (hd:Five (d:Int)) (hcn:cn≤1048576) (clr:Bool) (HCL:Hid (clr=true↔LikeI 1 cn s C)) (hs:∀ i,i < 1→0≤s i∧s i≤65535):
  Calls Tryz.prog 82 #[.agg #[.int .i64 hw,.int .i64 hh,.int .i64 (d:Int),.int .i64 0,.bool lace,.slice ta tn tc,.slice ca cn cc,.int .i64 rw',.int .i64 rh,.int .i64 rc,.int .i64 rd,.slice sa sn sc,.slice ka kn kc],.slice a 1 cap] w (MeantPost (fun k=>if k < 3 then s 0 * mulD d else if clr then 0 else 65535) w):=by
 have hpx:=fun W cv (h:Came W a 1 s) (h0:0≤cv) (h1:cv≤65535)=>pixelOf_any a 1 cap d s cv W h (by omega) hd hs h0 h1
 have hlk:=fun W (h:Came W a 1 s) (h':Came W ca cn C)=>likeI_any a ca 1 cn cap cc s C W h h' (by omega) hcn
 have HX:Hid (MtS w #[.int .i64 hw,.int .i64 hh,.int .i64 (d:Int),.int .i64 0,.bool lace,.slice ta tn tc,.slice ca cn cc,.int .i64 rw',.int .i64 rh,.int .i64 rc,.int .i64 rd,.slice sa sn sc,.slice ka kn kc] ta tn T ca cn C a 1 s ((w.alloc (.cells #[.int .i64 hw,.int .i64 hh,.int .i64 (d:Int),.int .i64 0,.bool lace,.slice ta tn tc,.slice ca cn cc,.int .i64 rw',.int .i64 rh,.int .i64 rc,.int .i64 rd,.slice sa sn sc,.slice ka kn kc] 37)).alloc (.cells #[.int .i64 0,.int .i64 0,.int .i64 0,.int .i64 0] 104))):=by
  have hb:Below w.heap.size w ((w.alloc (.cells #[.int .i64 hw,.int .i64 hh,.int .i64 (d:Int),.int .i64 0,.bool lace,.slice ta tn tc,.slice ca cn cc,.int .i64 rw',.int .i64 rh,.int .i64 rc,.int .i64 rd,.slice sa sn sc,.slice ka kn kc] 37)).alloc (.cells #[.int .i64 0,.int .i64 0,.int .i64 0,.int .i64 0] 104)):=bal (bstart _ _) _
  refine⟨?_,⟨#[.int .i64 0,.int .i64 0,.int .i64 0,.int .i64 0],?_,rfl⟩,hb,hT,hC,hS⟩
  ·show ((w.heap.push _).push _)[w.heap.size]?=_
   rw[Array.getElem?_push,if_neg (by simp),Array.getElem?_push,if_pos (by simp)]
  ·show ((w.heap.push _).push _)[w.heap.size+1]?=_
   rw[Array.getElem?_push,if_pos (by simp)]
 clear hT hC hS
 have HM:=hid_of (mulD_five hd)
 obtain⟨M,hM⟩:∃ M:Int,M=2 ^ d:=⟨_,rfl⟩
 have hpd:p2 d=M:=by rw [hM]; rfl
 rw[hpd] at HM
 have r2:=hM.symm
 have hMb:2≤M∧M≤65536:=by
  have h1:=HM.out.2.2.2
  have h2:=p2_le (show d≤16 by have:=five_range hd; omega)
  rw[show p2 16=65536 by decide +kernel,hpd] at h2
  omega
 have w6:IntKind.i64.wrap M=M:=by rw [IntKind.wrap_i64]; omega
 have w7:IntKind.i64.wrap (M - 1)=M - 1:=by rw [IntKind.wrap_i64]; omega
 have m64:min d 64=d:=by have:=five_range hd; omega
 have hd0:(0:Int)≤(d:Int):=by omega
 clear hM hpd
 have l0:=block_lt HX.out.1
 go_enter Tryz.func82,Tryz.ntmps82
 go_wp2_with fail
 refine (hlk _ (HX.out.2.2.2.2.2.called HX.out.2.2.1) (HX.out.2.2.2.2.1.called HX.out.2.2.1)).mono ?_
 rintro e w1 ⟨b,rfl,hb,hB⟩
 have HX1:=hid_of (HX.out.called hB)
 obtain rfl:clr=b:=by
  cases b
  ·cases clr
   ·rfl
   ·exact absurd (hb.mpr (HCL.out.mp rfl)) (by simp)
  ·exact HCL.out.mpr (hb.mp rfl)
 clear hB hb HX l0 HCL
 cases clr
 ·go_wp2_with fail
  refine (hpx _ (M - 1) (HX1.out.2.2.2.2.2.called HX1.out.2.2.1) (by omega) (by omega)).mono ?_
  rintro e w2 ⟨rfl,hB⟩
  have HX2:=hid_of (HX1.out.called hB)
  clear hB HX1
  simp only [four]
  obtain⟨Z,hZ,hZs⟩:=HX2.out.2.1
  obtain⟨p0,z0⟩:∃ q,w2.cell? ⟨w.heap.size+1,0,none⟩=some q:=⟨Z[0]'(by omega),(cell_of_block hZ 0).trans (Array.getElem?_eq_getElem (by omega))⟩
  obtain⟨p1,z1⟩:∃ q,w2.cell? ⟨w.heap.size+1,1,none⟩=some q:=⟨Z[1]'(by omega),(cell_of_block hZ 1).trans (Array.getElem?_eq_getElem (by omega))⟩
  obtain⟨p2,z2⟩:∃ q,w2.cell? ⟨w.heap.size+1,2,none⟩=some q:=⟨Z[2]'(by omega),(cell_of_block hZ 2).trans (Array.getElem?_eq_getElem (by omega))⟩
  obtain⟨p3,z3⟩:∃ q,w2.cell? ⟨w.heap.size+1,3,none⟩=some q:=⟨Z[3]'(by omega),(cell_of_block hZ 3).trans (Array.getElem?_eq_getElem (by omega))⟩
  have zf:∀ k,w2.frozen? ⟨w.heap.size+1,k,none⟩=false:=unfrozen_of_block hZ
  have zl:=block_lt hZ
  generalize hv0:colN3 1 s (M - 1) 0 * mulD d=v0
  generalize hv1:colN3 1 s (M - 1) 1 * mulD d=v1
  generalize hv2:colN3 1 s (M - 1) 2 * mulD d=v2
  generalize hv3:colN3 1 s (M - 1) 3 * mulD d=v3
  have HV:=hid_of (And.intro hv0 (And.intro hv1 (And.intro hv2 hv3)))
  clear hv0 hv1 hv2 hv3 hZ hZs
  go_wp2_with fail
  refine bodyPost_ret (v:=.agg #[.int .i64 v0,.int .i64 v1,.int .i64 v2,.int .i64 v3]) ?_ rfl ⟨?_,((((HX2.out.set 0 _).set 1 _).set 2 _).set 3 _).2.2.1⟩
  ·simp[results,Tryz.results82,go_sem, *]
  ·obtain⟨h0,h1,h2,h3⟩:=HV.out
   rw[← h0,← h1,← h2,← h3]
   have:=HM.out.2.2.1
   simp[four,colN3,this]
 ·go_wp2_with fail
  refine (hpx _ 0 (HX1.out.2.2.2.2.2.called HX1.out.2.2.1) (by omega) (by omega)).mono ?_
  rintro e w2 ⟨rfl,hB⟩
  have HX2:=hid_of (HX1.out.called hB)
  clear hB HX1
  simp only [four]
  obtain⟨Z,hZ,hZs⟩:=HX2.out.2.1
  obtain⟨p0,z0⟩:∃ q,w2.cell? ⟨w.heap.size+1,0,none⟩=some q:=⟨Z[0]'(by omega),(cell_of_block hZ 0).trans (Array.getElem?_eq_getElem (by omega))⟩
  obtain⟨p1,z1⟩:∃ q,w2.cell? ⟨w.heap.size+1,1,none⟩=some q:=⟨Z[1]'(by omega),(cell_of_block hZ 1).trans (Array.getElem?_eq_getElem (by omega))⟩
  obtain⟨p2,z2⟩:∃ q,w2.cell? ⟨w.heap.size+1,2,none⟩=some q:=⟨Z[2]'(by omega),(cell_of_block hZ 2).trans (Array.getElem?_eq_getElem (by omega))⟩
  obtain⟨p3,z3⟩:∃ q,w2.cell? ⟨w.heap.size+1,3,none⟩=some q:=⟨Z[3]'(by omega),(cell_of_block hZ 3).trans (Array.getElem?_eq_getElem (by omega))⟩
  have zf:∀ k,w2.frozen? ⟨w.heap.size+1,k,none⟩=false:=unfrozen_of_block hZ
  have zl:=block_lt hZ
  generalize hv0:colN3 1 s 0 0 * mulD d=v0
  generalize hv1:colN3 1 s 0 1 * mulD d=v1
  generalize hv2:colN3 1 s 0 2 * mulD d=v2
  generalize hv3:colN3 1 s 0 3 * mulD d=v3
  have HV:=hid_of (And.intro hv0 (And.intro hv1 (And.intro hv2 hv3)))
  clear hv0 hv1 hv2 hv3 hZ hZs
  go_wp2_with fail
  refine bodyPost_ret (v:=.agg #[.int .i64 v0,.int .i64 v1,.int .i64 v2,.int .i64 v3]) ?_ rfl ⟨?_,((((HX2.out.set 0 _).set 1 _).set 2 _).set 3 _).2.2.1⟩
  ·simp[results,Tryz.results82,go_sem, *]
  ·obtain⟨h0,h1,h2,h3⟩:=HV.out
   rw[← h0,← h1,← h2,← h3]
   simp[four,colN3]
set_option maxRecDepth 100000 in
set_option maxHeartbeats 1600000 in
theorem meant_2 (hw hh:Int) (d:Nat) (lace:Bool) (tn:Nat) (T:Nat→Rgb3) (cn:Nat) (C:Nat→Int) (rw' rh rc rd:Int) (sn:Nat) (kn:Nat) (ta ca sa ka:Option Addr) (tc cc sc kc:Nat) (a:Option Addr) (cap:Nat) (s:Nat→Int) (w:World) (hT:RgbCame w ta tn T) (hC:Came w ca cn C) (hS:Came w a 3 s) (hd:Five (d:Int)) (hcn:cn≤1048576) (clr:Bool) (HCL:Hid (clr=true↔LikeI 3 cn s C)) (hs:∀ i,i < 3→0≤s i∧s i≤65535):
  Calls Tryz.prog 82 #[.agg #[.int .i64 hw,.int .i64 hh,.int .i64 (d:Int),.int .i64 2,.bool lace,.slice ta tn tc,.slice ca cn cc,.int .i64 rw',.int .i64 rh,.int .i64 rc,.int .i64 rd,.slice sa sn sc,.slice ka kn kc],.slice a 3 cap] w (MeantPost (fun k=>if k < 3 then s k * mulD d else if clr then 0 else 65535) w):=by
 have hpx:=fun W cv (h:Came W a 3 s) (h0:0≤cv) (h1:cv≤65535)=>pixelOf_any a 3 cap d s cv W h (by omega) hd hs h0 h1
 have hlk:=fun W (h:Came W a 3 s) (h':Came W ca cn C)=>likeI_any a ca 3 cn cap cc s C W h h' (by omega) hcn
 have HX:Hid (MtS w #[.int .i64 hw,.int .i64 hh,.int .i64 (d:Int),.int .i64 2,.bool lace,.slice ta tn tc,.slice ca cn cc,.int .i64 rw',.int .i64 rh,.int .i64 rc,.int .i64 rd,.slice sa sn sc,.slice ka kn kc] ta tn T ca cn C a 3 s ((w.alloc (.cells #[.int .i64 hw,.int .i64 hh,.int .i64 (d:Int),.int .i64 2,.bool lace,.slice ta tn tc,.slice ca cn cc,.int .i64 rw',.int .i64 rh,.int .i64 rc,.int .i64 rd,.slice sa sn sc,.slice ka kn kc] 37)).alloc (.cells #[.int .i64 0,.int .i64 0,.int .i64 0,.int .i64 0] 104))):=by
  have hb:Below w.heap.size w ((w.alloc (.cells #[.int .i64 hw,.int .i64 hh,.int .i64 (d:Int),.int .i64 2,.bool lace,.slice ta tn tc,.slice ca cn cc,.int .i64 rw',.int .i64 rh,.int .i64 rc,.int .i64 rd,.slice sa sn sc,.slice ka kn kc] 37)).alloc (.cells #[.int .i64 0,.int .i64 0,.int .i64 0,.int .i64 0] 104)):=bal (bstart _ _) _
  refine⟨?_,⟨#[.int .i64 0,.int .i64 0,.int .i64 0,.int .i64 0],?_,rfl⟩,hb,hT,hC,hS⟩
  ·show ((w.heap.push _).push _)[w.heap.size]?=_
   rw[Array.getElem?_push,if_neg (by simp),Array.getElem?_push,if_pos (by simp)]
  ·show ((w.heap.push _).push _)[w.heap.size+1]?=_
   rw[Array.getElem?_push,if_pos (by simp)]
 clear hT hC hS
 have HM:=hid_of (mulD_five hd)
 obtain⟨M,hM⟩:∃ M:Int,M=2 ^ d:=⟨_,rfl⟩
 have hpd:p2 d=M:=by rw [hM]; rfl
 rw[hpd] at HM
 have r2:=hM.symm
 have hMb:2≤M∧M≤65536:=by
  have h1:=HM.out.2.2.2
  have h2:=p2_le (show d≤16 by have:=five_range hd; omega)
  rw[show p2 16=65536 by decide +kernel,hpd] at h2
  omega
 have w6:IntKind.i64.wrap M=M:=by rw [IntKind.wrap_i64]; omega
 have w7:IntKind.i64.wrap (M - 1)=M - 1:=by rw [IntKind.wrap_i64]; omega
 have m64:min d 64=d:=by have:=five_range hd; omega
 have hd0:(0:Int)≤(d:Int):=by omega
 clear hM hpd
 have l0:=block_lt HX.out.1
 go_enter Tryz.func82,Tryz.ntmps82
 go_wp2_with fail
 refine (hlk _ (HX.out.2.2.2.2.2.called HX.out.2.2.1) (HX.out.2.2.2.2.1.called HX.out.2.2.1)).mono ?_
 rintro e w1 ⟨b,rfl,hb,hB⟩
 have HX1:=hid_of (HX.out.called hB)
 obtain rfl:clr=b:=by
  cases b
  ·cases clr
   ·rfl
   ·exact absurd (hb.mpr (HCL.out.mp rfl)) (by simp)
  ·exact HCL.out.mpr (hb.mp rfl)
 clear hB hb HX l0 HCL
 cases clr
 ·go_wp2_with fail
  refine (hpx _ (M - 1) (HX1.out.2.2.2.2.2.called HX1.out.2.2.1) (by omega) (by omega)).mono ?_
  rintro e w2 ⟨rfl,hB⟩
  have HX2:=hid_of (HX1.out.called hB)
  clear hB HX1
  simp only [four]
  obtain⟨Z,hZ,hZs⟩:=HX2.out.2.1
  obtain⟨p0,z0⟩:∃ q,w2.cell? ⟨w.heap.size+1,0,none⟩=some q:=⟨Z[0]'(by omega),(cell_of_block hZ 0).trans (Array.getElem?_eq_getElem (by omega))⟩
  obtain⟨p1,z1⟩:∃ q,w2.cell? ⟨w.heap.size+1,1,none⟩=some q:=⟨Z[1]'(by omega),(cell_of_block hZ 1).trans (Array.getElem?_eq_getElem (by omega))⟩
  obtain⟨p2,z2⟩:∃ q,w2.cell? ⟨w.heap.size+1,2,none⟩=some q:=⟨Z[2]'(by omega),(cell_of_block hZ 2).trans (Array.getElem?_eq_getElem (by omega))⟩
  obtain⟨p3,z3⟩:∃ q,w2.cell? ⟨w.heap.size+1,3,none⟩=some q:=⟨Z[3]'(by omega),(cell_of_block hZ 3).trans (Array.getElem?_eq_getElem (by omega))⟩
  have zf:∀ k,w2.frozen? ⟨w.heap.size+1,k,none⟩=false:=unfrozen_of_block hZ
  have zl:=block_lt hZ
  generalize hv0:colN3 3 s (M - 1) 0 * mulD d=v0
  generalize hv1:colN3 3 s (M - 1) 1 * mulD d=v1
  generalize hv2:colN3 3 s (M - 1) 2 * mulD d=v2
  generalize hv3:colN3 3 s (M - 1) 3 * mulD d=v3
  have HV:=hid_of (And.intro hv0 (And.intro hv1 (And.intro hv2 hv3)))
  clear hv0 hv1 hv2 hv3 hZ hZs
  go_wp2_with fail
  refine bodyPost_ret (v:=.agg #[.int .i64 v0,.int .i64 v1,.int .i64 v2,.int .i64 v3]) ?_ rfl ⟨?_,((((HX2.out.set 0 _).set 1 _).set 2 _).set 3 _).2.2.1⟩
  ·simp[results,Tryz.results82,go_sem, *]
  ·obtain⟨h0,h1,h2,h3⟩:=HV.out
   rw[← h0,← h1,← h2,← h3]
   have:=HM.out.2.2.1
   simp[four,colN3,this]
 ·go_wp2_with fail
  refine (hpx _ 0 (HX1.out.2.2.2.2.2.called HX1.out.2.2.1) (by omega) (by omega)).mono ?_
  rintro e w2 ⟨rfl,hB⟩
  have HX2:=hid_of (HX1.out.called hB)
  clear hB HX1
  simp only [four]
  obtain⟨Z,hZ,hZs⟩:=HX2.out.2.1
  obtain⟨p0,z0⟩:∃ q,w2.cell? ⟨w.heap.size+1,0,none⟩=some q:=⟨Z[0]'(by omega),(cell_of_block hZ 0).trans (Array.getElem?_eq_getElem (by omega))⟩
  obtain⟨p1,z1⟩:∃ q,w2.cell? ⟨w.heap.size+1,1,none⟩=some q:=⟨Z[1]'(by omega),(cell_of_block hZ 1).trans (Array.getElem?_eq_getElem (by omega))⟩
  obtain⟨p2,z2⟩:∃ q,w2.cell? ⟨w.heap.size+1,2,none⟩=some q:=⟨Z[2]'(by omega),(cell_of_block hZ 2).trans (Array.getElem?_eq_getElem (by omega))⟩
  obtain⟨p3,z3⟩:∃ q,w2.cell? ⟨w.heap.size+1,3,none⟩=some q:=⟨Z[3]'(by omega),(cell_of_block hZ 3).trans (Array.getElem?_eq_getElem (by omega))⟩
  have zf:∀ k,w2.frozen? ⟨w.heap.size+1,k,none⟩=false:=unfrozen_of_block hZ
  have zl:=block_lt hZ
  generalize hv0:colN3 3 s 0 0 * mulD d=v0
  generalize hv1:colN3 3 s 0 1 * mulD d=v1
  generalize hv2:colN3 3 s 0 2 * mulD d=v2
  generalize hv3:colN3 3 s 0 3 * mulD d=v3
  have HV:=hid_of (And.intro hv0 (And.intro hv1 (And.intro hv2 hv3)))
  clear hv0 hv1 hv2 hv3 hZ hZs
  go_wp2_with fail
  refine bodyPost_ret (v:=.agg #[.int .i64 v0,.int .i64 v1,.int .i64 v2,.int .i64 v3]) ?_ rfl ⟨?_,((((HX2.out.set 0 _).set 1 _).set 2 _).set 3 _).2.2.1⟩
  ·simp[results,Tryz.results82,go_sem, *]
  ·obtain⟨h0,h1,h2,h3⟩:=HV.out
   rw[← h0,← h1,← h2,← h3]
   simp[four,colN3]
set_option maxRecDepth 100000 in
set_option maxHeartbeats 1600000 in
theorem meant_3 (hw hh:Int) (d:Nat) (lace:Bool) (tn:Nat) (T:Nat→Rgb3) (cn:Nat) (C:Nat→Int) (rw' rh rc rd:Int) (sn:Nat) (kn:Nat) (ta ca sa ka:Option Addr) (tc cc sc kc:Nat) (a:Option Addr) (cap:Nat) (s:Nat→Int) (w:World) (hT:RgbCame w ta tn T) (hC:Came w ca cn C) (hS:Came w a 1 s) (pl:Nat) (hs0:s 0=(pl:Int)) (hpl:pl < tn) (hR:RgbR (T pl)) (cv:Int) (HCV:Hid (cv=if (pl:Int) < (cn:Int) then C pl else 255)) (hcv0:0≤cv) (hcv1:cv≤255):
  Calls Tryz.prog 82 #[.agg #[.int .i64 hw,.int .i64 hh,.int .i64 (d:Int),.int .i64 3,.bool lace,.slice ta tn tc,.slice ca cn cc,.int .i64 rw',.int .i64 rh,.int .i64 rc,.int .i64 rd,.slice sa sn sc,.slice ka kn kc],.slice a 1 cap] w (MeantPost (fun k=>257 * (if k=0 then (T pl).1 else if k=1 then (T pl).2.1 else if k=2 then (T pl).2.2 else cv)) w):=by
 obtain⟨g,off,ha,hg,hcell⟩:∃ g off,a=some ⟨g,off,none⟩∧g < w.heap.size∧∀ j,j < 1→w.cell? ⟨g,off+j,none⟩=some (.int .i64 (s j)):=by
  rcases hS with h | h
  ·omega
  ·exact h
 subst ha
 obtain⟨gT,oT,ha,hgT,hcT⟩:∃ g off,ta=some ⟨g,off,none⟩∧g < w.heap.size∧∀ j,j < tn→w.cell? ⟨g,off+j * 3,none⟩=some (.int .i64 (T j).1)∧w.cell? ⟨g,off+j * 3+1,none⟩=some (.int .i64 (T j).2.1)∧w.cell? ⟨g,off+j * 3+2,none⟩=some (.int .i64 (T j).2.2):=by
  rcases hT with h | h
  ·omega
  ·exact h
 subst ha
 have hcv:=fun W (h:Came W ca cn C)=>tableCover_any ⟨hw,hh,(d:Int),3,lace,tn,T,cn,C,rw',rh,rc,rd,sn,fun _=>0,kn,fun _=>(ByteArray.empty,ByteArray.empty)⟩ ⟨some ⟨gT,oT,none⟩,tc,ca,cc,sa,sc,ka,kc⟩ pl W h
 simp only [pngV] at hcv
 have HCT:Hid (coverT ⟨hw,hh,(d:Int),3,lace,tn,T,cn,C,rw',rh,rc,rd,sn,fun _=>0,kn,fun _=>(ByteArray.empty,ByteArray.empty)⟩ (pl:Int)=cv):=by
  show _=_
  rw[HCV.out]
  rfl
 rw[HCT.out] at hcv
 have HX:Hid (MtS w #[.int .i64 hw,.int .i64 hh,.int .i64 (d:Int),.int .i64 3,.bool lace,.slice (some ⟨gT,oT,none⟩) tn tc,.slice ca cn cc,.int .i64 rw',.int .i64 rh,.int .i64 rc,.int .i64 rd,.slice sa sn sc,.slice ka kn kc] (some ⟨gT,oT,none⟩) tn T ca cn C (some ⟨g,off,none⟩) 1 s ((w.alloc (.cells #[.int .i64 hw,.int .i64 hh,.int .i64 (d:Int),.int .i64 3,.bool lace,.slice (some ⟨gT,oT,none⟩) tn tc,.slice ca cn cc,.int .i64 rw',.int .i64 rh,.int .i64 rc,.int .i64 rd,.slice sa sn sc,.slice ka kn kc] 37)).alloc (.cells #[.int .i64 0,.int .i64 0,.int .i64 0,.int .i64 0] 104))):=by
  have hb:Below w.heap.size w ((w.alloc (.cells #[.int .i64 hw,.int .i64 hh,.int .i64 (d:Int),.int .i64 3,.bool lace,.slice (some ⟨gT,oT,none⟩) tn tc,.slice ca cn cc,.int .i64 rw',.int .i64 rh,.int .i64 rc,.int .i64 rd,.slice sa sn sc,.slice ka kn kc] 37)).alloc (.cells #[.int .i64 0,.int .i64 0,.int .i64 0,.int .i64 0] 104)):=bal (bstart _ _) _
  refine⟨?_,⟨#[.int .i64 0,.int .i64 0,.int .i64 0,.int .i64 0],?_,rfl⟩,hb,hT,hC,hS⟩
  ·show ((w.heap.push _).push _)[w.heap.size]?=_
   rw[Array.getElem?_push,if_neg (by simp),Array.getElem?_push,if_pos (by simp)]
  ·show ((w.heap.push _).push _)[w.heap.size+1]?=_
   rw[Array.getElem?_push,if_pos (by simp)]
 clear hT hC hS
 have HSL:Hid (∀ u,MtS w #[.int .i64 hw,.int .i64 hh,.int .i64 (d:Int),.int .i64 3,.bool lace,.slice (some ⟨gT,oT,none⟩) tn tc,.slice ca cn cc,.int .i64 rw',.int .i64 rh,.int .i64 rc,.int .i64 rd,.slice sa sn sc,.slice ka kn kc] (some ⟨gT,oT,none⟩) tn T ca cn C (some ⟨g,off,none⟩) 1 s u→Came u ca cn C∧u.cell? ⟨gT,oT+pl * 3,none⟩=some (.int .i64 (T pl).1)∧u.cell? ⟨gT,oT+pl * 3+1,none⟩=some (.int .i64 (T pl).2.1)∧u.cell? ⟨gT,oT+pl * 3+2,none⟩=some (.int .i64 (T pl).2.2)∧gT < u.heap.size):=fun u hu=>by
  have hb:=hu.2.2.1
  obtain⟨t0,t1,t2⟩:=hcT pl hpl
  exact⟨hu.2.2.2.2.1.called hb,(hb.cell (p:=⟨gT,oT+pl * 3,none⟩) hgT).trans t0,(hb.cell (p:=⟨gT,oT+pl * 3+1,none⟩) hgT).trans t1,(hb.cell (p:=⟨gT,oT+pl * 3+2,none⟩) hgT).trans t2,Nat.lt_of_lt_of_le hgT hb.size⟩
 have k0:=hcell 0 (by omega)
 rw[hs0,Nat.add_zero] at k0
 obtain⟨x,hx⟩:∃ x,x=(T pl).1:=⟨_,rfl⟩
 obtain⟨y,hy⟩:∃ y,y=(T pl).2.1:=⟨_,rfl⟩
 obtain⟨z,hz⟩:∃ z,z=(T pl).2.2:=⟨_,rfl⟩
 have HT:Hid (x=(T pl).1∧y=(T pl).2.1∧z=(T pl).2.2):=⟨hx,hy,hz⟩
 rw[← hx,← hy,← hz] at HSL
 have hR':(0≤x∧x≤255)∧(0≤y∧y≤255)∧(0≤z∧z≤255):=by rw [hx,hy,hz]; exact hR
 have hnum:=fun W=>numbers_any x y z W
 have hpx:=fun (b:Option Addr) W (h:Came W b 3 (col3 (x,y,z)))=>pixelOf_any b 3 3 8 (col3 (x,y,z)) cv W h (by omega) (by decide) (fun i hi=>by
  have:i=0∨i=1∨i=2:=by omega
  rcases this with rfl | rfl | rfl <;> simp [col3] <;> omega) hcv0 (by omega)
 have h8:((8:Nat):Int)=8:=rfl
 rw[h8] at hpx
 have hp0:(0:Int)≤(pl:Int):=by omega
 have hp1:(pl:Int) < (tn:Int):=by omega
 clear hcell hcT hs0 hx hy hz hR hR' h8 HCT HCV
 have l0:=block_lt HX.out.1
 go_enter Tryz.func82,Tryz.ntmps82
 go_wp2_with fail
 have HS0:MtS w #[.int .i64 hw,.int .i64 hh,.int .i64 (d:Int),.int .i64 3,.bool lace,.slice (some ⟨gT,oT,none⟩) tn tc,.slice ca cn cc,.int .i64 rw',.int .i64 rh,.int .i64 rc,.int .i64 rd,.slice sa sn sc,.slice ka kn kc] (some ⟨gT,oT,none⟩) tn T ca cn C (some ⟨g,off,none⟩) 1 s ((w.alloc (.cells #[.int .i64 hw,.int .i64 hh,.int .i64 (d:Int),.int .i64 3,.bool lace,.slice (some ⟨gT,oT,none⟩) tn tc,.slice ca cn cc,.int .i64 rw',.int .i64 rh,.int .i64 rc,.int .i64 rd,.slice sa sn sc,.slice ka kn kc] 37)).alloc (.cells #[.int .i64 0,.int .i64 0,.int .i64 0,.int .i64 0] 104)).drew:=HX.out.called (bdraws (Below.refl _ _) 1)
 clear HX l0 k0
 refine wp_region_held (S:=MtS w #[.int .i64 hw,.int .i64 hh,.int .i64 (d:Int),.int .i64 3,.bool lace,.slice (some ⟨gT,oT,none⟩) tn tc,.slice ca cn cc,.int .i64 rw',.int .i64 rh,.int .i64 rc,.int .i64 rd,.slice sa sn sc,.slice ka kn kc] (some ⟨gT,oT,none⟩) tn T ca cn C (some ⟨g,off,none⟩) 1 s) (by kernel_rfl) ?_
 show wpAnyH _ _ _ _ _ _ _ _ ((w.alloc _).alloc _).drew
 generalize ((w.alloc _).alloc _).drew=u0 at HS0 ⊢
 refine zqt 0 (.pointer (some ⟨w.heap.size,5,none⟩)) rfl ?_ HS0 ?_
 ·intro w' _
  go_simp
 simp only [Act.put,zga,zgb,zsa,zsb,zsc]
 refine zqt 1 (.slice (some ⟨gT,oT,none⟩) tn tc) rfl ?_ HS0 ?_
 ·intro w' hS
  obtain⟨b0,b1,b2,b3,b4,b5,b6,b7,b8,b9,b10,b11,b12⟩:=zqc hS.1; have bl:=block_lt hS.1
  go_simp
 simp only [Act.put,zga,zgb,zgc,zsa,zsb,zsc]
 refine zqt 2 (.int .i64 (pl:Int)) rfl ?_ HS0 ?_
 ·intro w' _
  go_simp
 simp only [Act.put,zga,zgb,zgc,zsa,zsb,zsc]
 refine zqt 3 (.pointer (some ⟨gT,oT+pl * 3,none⟩)) rfl ?_ HS0 ?_
 ·intro w' _
  go_simp
 simp only [Act.put,zga,zgb,zgc,zsa,zsb,zsc]
 refine zqt 4 (.agg #[.int .i64 x,.int .i64 y,.int .i64 z]) rfl ?_ HS0 ?_
 ·intro w' hS
  obtain⟨_,t0,t1,t2,tl⟩:=HSL.out _ hS
  go_simp
 simp only [Act.put,zga,zgb,zgc,zsa,zsb,zsc]
 refine zqt 6 (.agg #[.int .i64 hw,.int .i64 hh,.int .i64 (d:Int),.int .i64 3,.bool lace,.slice (some ⟨gT,oT,none⟩) tn tc,.slice ca cn cc,.int .i64 rw',.int .i64 rh,.int .i64 rc,.int .i64 rd,.slice sa sn sc,.slice ka kn kc]) rfl ?_ HS0 ?_
 ·intro w' hS
  obtain⟨b0,b1,b2,b3,b4,b5,b6,b7,b8,b9,b10,b11,b12⟩:=zqc hS.1; have bl:=block_lt hS.1
  go_simp
 simp only [Act.put,zga,zgb,zgc,zsa,zsb,zsc]
 refine zqt 7 (.int .i64 (pl:Int)) rfl ?_ HS0 ?_
 ·intro w' _
  go_simp
 simp only [Act.put,zga,zgb,zgc,zsa,zsb,zsc]
 refine zqr 5 rfl (fun K1 hK=>?_)
 refine if_wanted (wanted_none rfl) ?_
 simp only [zga,zgb,zgc]
 go_simp
 refine (hnum _).mono ?_
 rintro e u1 ⟨⟨b,rfl,hb⟩,hB⟩
 have HT1:=HS0.called hB
 refine hK.out _ _ HT1 (fun HS1=>?_)
 have HN1:=hid_of hb
 clear hK hB HT1 hb
 refine zqr 8 rfl (fun K1 hK=>?_)
 refine if_wanted (wanted_none rfl) ?_
 simp only [zga,zgb,zgc]
 go_simp
 refine (hcv _ (HSL.out _ HS1).1).mono ?_
 rintro e u2 ⟨rfl,hB⟩
 have HT1:=HS1.called hB
 refine hK.out _ _ HT1 (fun HS2=>?_)
 have HN2:=hid_of (HN1.out.called hB)
 clear hK hB HT1 HN1
 refine zqr 9 rfl (fun K1 hK=>?_)
 refine if_wanted (wanted_none rfl) ?_
 simp only [zga,zgb,zgc]
 go_simp
 refine (hpx b _ HN2.out).mono ?_
 rintro e u3 ⟨rfl,hB⟩
 have HT1:=HS2.called hB
 refine hK.out _ _ HT1 (fun HS3=>?_)
 clear hK hB HT1
 simp only [four] at *
 obtain⟨Z,hZ,hZs⟩:=HS3.2.1
 obtain⟨p0,z0⟩:∃ q,u3.cell? ⟨w.heap.size+1,0,none⟩=some q:=⟨Z[0]'(by omega),(cell_of_block hZ 0).trans (Array.getElem?_eq_getElem (by omega))⟩
 obtain⟨p1,z1⟩:∃ q,u3.cell? ⟨w.heap.size+1,1,none⟩=some q:=⟨Z[1]'(by omega),(cell_of_block hZ 1).trans (Array.getElem?_eq_getElem (by omega))⟩
 obtain⟨p2,z2⟩:∃ q,u3.cell? ⟨w.heap.size+1,2,none⟩=some q:=⟨Z[2]'(by omega),(cell_of_block hZ 2).trans (Array.getElem?_eq_getElem (by omega))⟩
 obtain⟨p3,z3⟩:∃ q,u3.cell? ⟨w.heap.size+1,3,none⟩=some q:=⟨Z[3]'(by omega),(cell_of_block hZ 3).trans (Array.getElem?_eq_getElem (by omega))⟩
 have zf:∀ k,u3.frozen? ⟨w.heap.size+1,k,none⟩=false:=unfrozen_of_block hZ
 have zl:=block_lt hZ
 have HF:Hid (MtS w #[.int .i64 hw,.int .i64 hh,.int .i64 (d:Int),.int .i64 3,.bool lace,.slice (some ⟨gT,oT,none⟩) tn tc,.slice ca cn cc,.int .i64 rw',.int .i64 rh,.int .i64 rc,.int .i64 rd,.slice sa sn sc,.slice ka kn kc] (some ⟨gT,oT,none⟩) tn T ca cn C (some ⟨g,off,none⟩) 1 s ((((u3.setCell ⟨w.heap.size+1,0,none⟩ (.int .i64 (colN3 3 (col3 (x,y,z)) cv 0 * mulD 8))).setCell ⟨w.heap.size+1,1,none⟩ (.int .i64 (colN3 3 (col3 (x,y,z)) cv 1 * mulD 8))).setCell ⟨w.heap.size+1,2,none⟩ (.int .i64 (colN3 3 (col3 (x,y,z)) cv 2 * mulD 8))).setCell ⟨w.heap.size+1,3,none⟩ (.int .i64 (colN3 3 (col3 (x,y,z)) cv 3 * mulD 8)))):=(((HS3.set 0 _).set 1 _).set 2 _).set 3 _
 clear hZ hZs HS0 HS1 HS2
 generalize hv0:colN3 3 (col3 (x,y,z)) cv 0 * mulD 8=v0 at HF ⊢
 generalize hv1:colN3 3 (col3 (x,y,z)) cv 1 * mulD 8=v1 at HF ⊢
 generalize hv2:colN3 3 (col3 (x,y,z)) cv 2 * mulD 8=v2 at HF ⊢
 generalize hv3:colN3 3 (col3 (x,y,z)) cv 3 * mulD 8=v3 at HF ⊢
 have HV:=hid_of (And.intro hv0 (And.intro hv1 (And.intro hv2 hv3)))
 clear hv0 hv1 hv2 hv3
 refine zqr 10 rfl (fun K1 hK=>?_)
 refine if_wanted (wanted_none rfl) ?_
 simp only [zga,zgb,zgc]
 go_simp
 refine hK.out _ _ HF.out (fun HS4=>?_)
 clear hK
 refine wpAnyH_done (by kernel_rfl) ?_ _
 clear HS4 HS3
 go_wp2_with fail
 refine bodyPost_ret (v:=.agg #[.int .i64 v0,.int .i64 v1,.int .i64 v2,.int .i64 v3]) ?_ rfl ⟨?_,HF.out.2.2.1⟩
 ·simp[results,Tryz.results82,go_sem, *]
 ·obtain⟨h0,h1,h2,h3⟩:=HV.out
  obtain⟨e0,e1,e2⟩:=HT.out
  have e8:mulD 8=257:=by decide +kernel
  rw[← h0,← h1,← h2,← h3,← e0,← e1,← e2]
  simp[four,colN3,col3,e8,Int.mul_comm]
end Go.Proofs.YtkpbfmdnjnohlaaGreat
