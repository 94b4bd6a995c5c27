/-
  Texts of the proof, put together.
-/
import Derived.Test.YtkpbfmdnjnohlaaMk51
namespace Go.Proofs.Ytkpbfmdnjnohlaa
open Go.RowKit Go.Joins HeadMath ChunkMath
def MlI (w:World) (A:Array Value) (p:Pic) (X:Nat) (kv:Value) (k:Nat) (u:World):Prop:=MoS w A u∧(∃ v,u.heap[X]?=some (.cells #[.int .i64 p.hw,.int .i64 p.hh,v,kv] 34 (0,0))∧u.ownsRow (X+1) 3 1 v (4 * k) (fints (pixL p) (4 * k)))∧w.heap.size+1 < X∧X+1≤u.heap.size
theorem MlI.called {w u u':World} {A:Array Value} {p:Pic} {X k:Nat} {kv:Value} (h:MlI w A p X kv k u) (hb:Below u.heap.size u u'):MlI w A p X kv k u':=by
 obtain⟨h1,⟨v,h2,h3⟩,h4,h5⟩:=h
 exact⟨h1.called hb,⟨v,(hb.block _ (block_lt h2)).trans h2,own_kept h3 fun b cs fz _ hc=>hb.block b (block_lt hc)⟩,h4,Nat.le_trans h5 hb.size⟩
set_option maxRecDepth 100000 in
set_option maxHeartbeats 4000000 in
theorem specMeaning (p:Pic) (q:PicA) (w:World) (hP:PngIn w p q) (hZ:PngSz p) (hcap:q.ka=none→q.kc=0):
  Calls Try.prog 7 #[pngV p q] w (MeaningPost p w):=by
 have hok:=fun W h=>specPngOk p q W h hZ
 have hpx:=fun at' W h hR ha=>specPixel_any p q at' W h hZ hR ha
 have hcp:=fun W (h:KCame W q.ka p.kn p.K) (hn:p.kn≤1000)=>copyKept_any q.ka p.kn q.kc p.K W h hn hcap
 have HK32:Hid (PngR p→p.kn≤1000):=fun h=>by have:=h.2.2.2.2.1; omega
 have HPX:Hid (PngR p→(pixN p:Int)=p.hw * p.hh∧pixN p≤576∧1≤p.hw∧p.hw≤24∧1≤p.hh∧p.hh≤24):=fun h=>by
  obtain⟨⟨⟨⟨a1,a2⟩,⟨b1,b2⟩,_⟩,_⟩,_⟩:=h
  have h1:0≤p.hw * p.hh:=Int.mul_nonneg (by omega) (by omega)
  have h2:p.hw * p.hh≤24 * 24:=Int.mul_le_mul a2 b2 (by omega) (by omega)
  unfold pixN
  exact⟨Int.toNat_of_nonneg h1,by omega,a1,a2,b1,b2⟩
 have HP:=hid_of hP
 have HKC:=hid_of hP.k
 have HNo:Hid (¬ PngR p→∀ W,Below w.heap.size w W→MeaningPost p w (.returned (.tuple #[.agg #[.int .i64 0,.int .i64 0,.slice none 0 0,.slice none 0 0],.bool false])) W):=fun h W b=>.inl ⟨h,rfl,b⟩
 have HYes:Hid (PngR p→∀ W a c a2 c2,SL W w.heap.size a (4 * pixN p) c (pixL p)→KSL W w.heap.size a2 p.kn p.K→Below w.heap.size w W→MeaningPost p w (.returned (.tuple #[.agg #[.int .i64 p.hw,.int .i64 p.hh,.slice a (4 * pixN p) c,.slice a2 p.kn c2],.bool true])) W):=fun h W a c a2 c2 h1 h2 b=>.inr ⟨h,⟨a,c,a2,c2⟩,rfl,⟨h1,h2⟩,b⟩
 clear hP hZ hcap
 obtain⟨p0,hp0⟩:∃ p0,p0=p:=⟨_,rfl⟩
 have hhw:p.hw=p0.hw:=by rw [hp0]
 have hhh:p.hh=p0.hh:=by rw [hp0]
 obtain⟨hw,hh,hd,hc',lace,tn,T,cn,C,rw',rh,rc,rd,sn,S,kn,K⟩:=p
 obtain⟨ta,tc,ca,cc,sa,sc,ka,kc⟩:=q
 simp only [pngV] at hok hpx hcp HYes HK32 HPX hhw hhh ⊢
 replace HKC:Hid (KCame w ka kn K):=HKC
 rw[← hp0] at hok hpx HYes HNo HP HK32 HPX ⊢
 have HHW:=hid_of hhw
 have HHH:=hid_of hhh
 clear hp0 hhw hhh
 have H0:Hid (MoS w #[.int .i64 hw,.int .i64 hh,.int .i64 hd,.int .i64 hc',.bool lace,.slice ta tn tc,.slice ca cn cc,.int .i64 rw',.int .i64 rh,.int .i64 rc,.int .i64 rd,.slice sa sn sc,.slice ka kn kc] ((w.alloc (.cells #[.int .i64 hw,.int .i64 hh,.int .i64 hd,.int .i64 hc',.bool lace,.slice ta tn tc,.slice ca cn cc,.int .i64 rw',.int .i64 rh,.int .i64 rc,.int .i64 rd,.slice sa sn sc,.slice ka kn kc] 41)).alloc (.cells #[.int .i64 0,.int .i64 0,.slice none 0 0,.slice none 0 0] 34))):=by
  refine⟨?_,⟨#[.int .i64 0,.int .i64 0,.slice none 0 0,.slice none 0 0],?_,rfl⟩,bal (bstart _ _) _⟩
  ·show ((w.heap.push _).push _)[w.heap.size]?=_
   rw[Array.getElem?_push,if_neg (by simp),Array.getElem?_push,if_pos (by simp)]
  ·show ((w.heap.push _).push _)[w.heap.size+1]?=_
   rw[Array.getElem?_push,if_pos (by simp)]
 go_enter Try.func7,Try.ntmps7
 go_wp2_with fail
 refine (hok _ (HP.out.called H0.out.2.2)).mono ?_
 rintro e w1 ⟨b,rfl,hb,hB⟩
 have H1:=hid_of (H0.out.called hB)
 have HB:=hid_of hb
 clear hB hb H0 hok
 obtain⟨⟨z0,z1,z2,z3,y0,y1,y2,y3⟩,yf,yl⟩:=H1.out.cells
 cases b
 ·have HN:=hid_of (HNo.out (fun h=>by have:=HB.out.mpr h; cases this))
  clear hpx hcp HYes
  go_wp2_with fail
  refine bodyPost_ret (v:=.tuple #[.agg #[.int .i64 0,.int .i64 0,.slice none 0 0,.slice none 0 0],.bool false]) ?_ rfl (HN.out _ ?_)
  ·simp[results,Try.results7,go_sem, *]
  ·first
    | exact ((((H1.out.set 0 _).set 1 _).set 2 _).set 3 _).2.2
    | exact H1.out.2.2
 have hR:=HB.out.mp rfl
 have hk1:=HK32.out hR
 have HY:=hid_of (HYes.out hR)
 obtain⟨hN,hN5,hw0,hw1,hh0,hh1⟩:=HPX.out hR
 have hpx1:=hid_of (fun at' W h ha=>hpx at' W h hR ha)
 have HRR:=hid_of hR
 clear hpx HNo HYes y0 y1 y2 y3 yf yl hR
 go_wp2_with fail
 have HS0:MoS w #[.int .i64 hw,.int .i64 hh,.int .i64 hd,.int .i64 hc',.bool lace,.slice ta tn tc,.slice ca cn cc,.int .i64 rw',.int .i64 rh,.int .i64 rc,.int .i64 rd,.slice sa sn sc,.slice ka kn kc] w1.drew:=H1.out.called (bdraws (Below.refl _ _) 1)
 clear H1
 refine wp_region_held (S:=MoS w #[.int .i64 hw,.int .i64 hh,.int .i64 hd,.int .i64 hc',.bool lace,.slice ta tn tc,.slice ca cn cc,.int .i64 rw',.int .i64 rh,.int .i64 rc,.int .i64 rd,.slice sa sn sc,.slice ka kn kc]) (by kernel_rfl) ?_
 show wpAnyH _ _ _ _ _ _ _ _ w1.drew
 generalize w1.drew=u0 at HS0 ⊢
 refine wpAnyH_take (i:=0) (v:=.pointer (some ⟨w.heap.size,0,none⟩)) rfl (by kernel_rfl) (by kernel_rfl) (by kernel_rfl) (fun _ _ _ h=>h) (Or.inl ⟨by rfl,?_⟩) HS0 ?_
 ·intro w' _
  go_simp
 simp only [Act.put,List.getElem_toArray,List.getElem_cons_zero,List.setIfInBounds_toArray,List.set_cons_zero,List.set_cons_succ]
 refine wpAnyH_take (i:=1) (v:=.pointer (some ⟨w.heap.size,0,none⟩)) rfl (by kernel_rfl) (by kernel_rfl) (by kernel_rfl) (fun _ _ _ h=>h) (Or.inl ⟨by rfl,?_⟩) HS0 ?_
 ·intro w' _
  go_simp
 simp only [Act.put,List.getElem_toArray,List.getElem_cons_zero,List.getElem_cons_succ,List.setIfInBounds_toArray,List.set_cons_zero,List.set_cons_succ]
 refine wpAnyH_take (i:=2) (v:=.int .i64 hw) rfl (by kernel_rfl) (by kernel_rfl) (by kernel_rfl) (fun _ _ _ h=>h) (Or.inl ⟨by rfl,?_⟩) HS0 ?_
 ·intro w' hS
  have b0:=(cell_of_block hS.1 0).trans rfl; have b1:=(cell_of_block hS.1 1).trans rfl; have b2:=(cell_of_block hS.1 2).trans rfl; have b3:=(cell_of_block hS.1 3).trans rfl; have b4:=(cell_of_block hS.1 4).trans rfl; have b5:=(cell_of_block hS.1 5).trans rfl; have b6:=(cell_of_block hS.1 6).trans rfl; have b7:=(cell_of_block hS.1 7).trans rfl; have b8:=(cell_of_block hS.1 8).trans rfl; have b9:=(cell_of_block hS.1 9).trans rfl; have b10:=(cell_of_block hS.1 10).trans rfl; have b11:=(cell_of_block hS.1 11).trans rfl; have b12:=(cell_of_block hS.1 12).trans rfl; have bl:=block_lt hS.1
  go_simp
 simp only [Act.put,List.getElem_toArray,List.getElem_cons_zero,List.getElem_cons_succ,List.setIfInBounds_toArray,List.set_cons_zero,List.set_cons_succ]
 refine wpAnyH_take (i:=3) (v:=.pointer (some ⟨w.heap.size,0,none⟩)) rfl (by kernel_rfl) (by kernel_rfl) (by kernel_rfl) (fun _ _ _ h=>h) (Or.inl ⟨by rfl,?_⟩) HS0 ?_
 ·intro w' _
  go_simp
 simp only [Act.put,List.getElem_toArray,List.getElem_cons_zero,List.getElem_cons_succ,List.setIfInBounds_toArray,List.set_cons_zero,List.set_cons_succ]
 refine wpAnyH_take (i:=4) (v:=.pointer (some ⟨w.heap.size,1,none⟩)) rfl (by kernel_rfl) (by kernel_rfl) (by kernel_rfl) (fun _ _ _ h=>h) (Or.inl ⟨by rfl,?_⟩) HS0 ?_
 ·intro w' _
  go_simp
 simp only [Act.put,List.getElem_toArray,List.getElem_cons_zero,List.getElem_cons_succ,List.setIfInBounds_toArray,List.set_cons_zero,List.set_cons_succ]
 refine wpAnyH_take (i:=5) (v:=.int .i64 hh) rfl (by kernel_rfl) (by kernel_rfl) (by kernel_rfl) (fun _ _ _ h=>h) (Or.inl ⟨by rfl,?_⟩) HS0 ?_
 ·intro w' hS
  have b0:=(cell_of_block hS.1 0).trans rfl; have b1:=(cell_of_block hS.1 1).trans rfl; have b2:=(cell_of_block hS.1 2).trans rfl; have b3:=(cell_of_block hS.1 3).trans rfl; have b4:=(cell_of_block hS.1 4).trans rfl; have b5:=(cell_of_block hS.1 5).trans rfl; have b6:=(cell_of_block hS.1 6).trans rfl; have b7:=(cell_of_block hS.1 7).trans rfl; have b8:=(cell_of_block hS.1 8).trans rfl; have b9:=(cell_of_block hS.1 9).trans rfl; have b10:=(cell_of_block hS.1 10).trans rfl; have b11:=(cell_of_block hS.1 11).trans rfl; have b12:=(cell_of_block hS.1 12).trans rfl; have bl:=block_lt hS.1
  go_simp
 simp only [Act.put,List.getElem_toArray,List.getElem_cons_zero,List.getElem_cons_succ,List.setIfInBounds_toArray,List.set_cons_zero,List.set_cons_succ]
 refine wpAnyH_take (i:=6) (v:=.pointer (some ⟨w.heap.size,12,none⟩)) rfl (by kernel_rfl) (by kernel_rfl) (by kernel_rfl) (fun _ _ _ h=>h) (Or.inl ⟨by rfl,?_⟩) HS0 ?_
 ·intro w' _
  go_simp
 simp only [Act.put,List.getElem_toArray,List.getElem_cons_zero,List.getElem_cons_succ,List.setIfInBounds_toArray,List.set_cons_zero,List.set_cons_succ]
 refine wpAnyH_take (i:=7) (v:=.slice ka kn kc) rfl (by kernel_rfl) (by kernel_rfl) (by kernel_rfl) (fun _ _ _ h=>h) (Or.inl ⟨by rfl,?_⟩) HS0 ?_
 ·intro w' hS
  have b0:=(cell_of_block hS.1 0).trans rfl; have b1:=(cell_of_block hS.1 1).trans rfl; have b2:=(cell_of_block hS.1 2).trans rfl; have b3:=(cell_of_block hS.1 3).trans rfl; have b4:=(cell_of_block hS.1 4).trans rfl; have b5:=(cell_of_block hS.1 5).trans rfl; have b6:=(cell_of_block hS.1 6).trans rfl; have b7:=(cell_of_block hS.1 7).trans rfl; have b8:=(cell_of_block hS.1 8).trans rfl; have b9:=(cell_of_block hS.1 9).trans rfl; have b10:=(cell_of_block hS.1 10).trans rfl; have b11:=(cell_of_block hS.1 11).trans rfl; have b12:=(cell_of_block hS.1 12).trans rfl; have bl:=block_lt hS.1
  go_simp
 simp only [Act.put,List.getElem_toArray,List.getElem_cons_zero,List.getElem_cons_succ,List.setIfInBounds_toArray,List.set_cons_zero,List.set_cons_succ]
 refine wpAnyH_ready (rs:=[8,10]) (by kernel_rfl) (by simp) ?_
 refine AllReadyH.cons rfl (fun K1 hK=>?_) (AllReadyH.cons rfl (fun K1 hK=>?_) AllReadyH.nil)
 ·refine if_wanted (wanted_none rfl) ?_
  simp only [List.getElem_toArray,List.getElem_cons_zero,List.getElem_cons_succ]
  go_simp
  refine (hcp _ (HKC.out.called HS0.2.2) hk1).mono ?_
  rintro e u2 ⟨pk,ck,rfl,hS2,hB⟩
  have HT:=HS0.called hB
  refine hK.out _ _ HT (fun HS2=>?_)
  have HA3:Hid (KSL u2 w.heap.size pk kn K):=ksl_low hS2 HS0.2.2.size
  clear hK hB HT hS2
  refine wpAnyH_take (i:=9) (v:=.agg #[.int .i64 hw,.int .i64 hh,.slice none 0 0,.slice pk kn ck]) rfl (by kernel_rfl) (by kernel_rfl) (by kernel_rfl) (fun _ _ _ h=>h) (Or.inl ⟨by rfl,?_⟩) HS2 ?_
  ·intro w' _
   go_simp
  simp only [Act.put,List.getElem_toArray,List.getElem_cons_zero,List.getElem_cons_succ,List.setIfInBounds_toArray,List.set_cons_zero,List.set_cons_succ]
  refine wpAnyH_ready (rs:=[10]) (by kernel_rfl) (by simp) ?_
  refine AllReadyH.cons rfl (fun K1 hK=>?_) AllReadyH.nil
  refine if_wanted (wanted_none rfl) ?_
  simp only [List.getElem_toArray,List.getElem_cons_zero,List.getElem_cons_succ]
  go_simp
  refine hK.out _ _ (HS2.called (bstart u2 (.cells #[.int .i64 0,.int .i64 0,.slice none 0 0,.slice none 0 0] 34))) (fun HS3=>?_)
  clear hK
  have hblk:(u2.alloc (.cells #[.int .i64 0,.int .i64 0,.slice none 0 0,.slice none 0 0] 34)).heap[u2.heap.size]?=some (.cells #[.int .i64 0,.int .i64 0,.slice none 0 0,.slice none 0 0] 34 (0,0)):=heap_alloc_new u2 _
  have hX1:w.heap.size+1 < u2.heap.size:=HS2.cells.2.2
  have HA4:=hid_of (HA3.out.called (bstart u2 (.cells #[.int .i64 0,.int .i64 0,.slice none 0 0,.slice none 0 0] 34)))
  have hzz:u2.heap.size+1≤(u2.alloc (.cells #[.int .i64 0,.int .i64 0,.slice none 0 0,.slice none 0 0] 34)).heap.size:=by simp
  generalize u2.alloc (.cells #[.int .i64 0,.int .i64 0,.slice none 0 0,.slice none 0 0] 34)=u3 at HS3 hblk HA4 hzz ⊢
  clear HA3 HS2
  have z0:=(cell_of_block hblk 0).trans rfl
  have z1:=(cell_of_block hblk 1).trans rfl
  have z2:=(cell_of_block hblk 2).trans rfl
  have z3:=(cell_of_block hblk 3).trans rfl
  have zf:∀ k,u3.frozen? ⟨u2.heap.size,k,none⟩=false:=unfrozen_of_block hblk
  have zl:=block_lt hblk
  have H2:Hid (MlI w #[.int .i64 hw,.int .i64 hh,.int .i64 hd,.int .i64 hc',.bool lace,.slice ta tn tc,.slice ca cn cc,.int .i64 rw',.int .i64 rh,.int .i64 rc,.int .i64 rd,.slice sa sn sc,.slice ka kn kc] p0 u2.heap.size (.slice pk kn ck) 0 ((((u3.setCell ⟨u2.heap.size,0,none⟩ (.int .i64 hw)).setCell ⟨u2.heap.size,1,none⟩ (.int .i64 hh)).setCell ⟨u2.heap.size,2,none⟩ (.slice none 0 0)).setCell ⟨u2.heap.size,3,none⟩ (.slice pk kn ck))∧KSL ((((u3.setCell ⟨u2.heap.size,0,none⟩ (.int .i64 hw)).setCell ⟨u2.heap.size,1,none⟩ (.int .i64 hh)).setCell ⟨u2.heap.size,2,none⟩ (.slice none 0 0)).setCell ⟨u2.heap.size,3,none⟩ (.slice pk kn ck)) w.heap.size pk kn K):=by
   have hoth:∀ b,b≠u2.heap.size→((((u3.setCell ⟨u2.heap.size,0,none⟩ (.int .i64 hw)).setCell ⟨u2.heap.size,1,none⟩ (.int .i64 hh)).setCell ⟨u2.heap.size,2,none⟩ (.slice none 0 0)).setCell ⟨u2.heap.size,3,none⟩ (.slice pk kn ck)).heap[b]?=u3.heap[b]?:=fun b hb=>by
    rw[Below.heap_setCell _ _ _ _ hb,Below.heap_setCell _ _ _ _ hb,Below.heap_setCell _ _ _ _ hb,Below.heap_setCell _ _ _ _ hb]
   obtain⟨m1,⟨Z,m2,m3⟩,m4⟩:=HS3
   have hbl:Below w.heap.size w ((((u3.setCell ⟨u2.heap.size,0,none⟩ (.int .i64 hw)).setCell ⟨u2.heap.size,1,none⟩ (.int .i64 hh)).setCell ⟨u2.heap.size,2,none⟩ (.slice none 0 0)).setCell ⟨u2.heap.size,3,none⟩ (.slice pk kn ck)):=(((m4.setCell (p:=⟨u2.heap.size,0,none⟩) (by show w.heap.size≤u2.heap.size; omega) _).setCell (p:=⟨u2.heap.size,1,none⟩) (by show w.heap.size≤u2.heap.size; omega) _).setCell (p:=⟨u2.heap.size,2,none⟩) (by show w.heap.size≤u2.heap.size; omega) _).setCell (p:=⟨u2.heap.size,3,none⟩) (by show w.heap.size≤u2.heap.size; omega) _
   refine⟨⟨⟨(hoth _ (by omega)).trans m1,⟨Z,(hoth _ (by omega)).trans m2,m3⟩,hbl⟩,⟨.slice none 0 0,?_,rfl,.inl ⟨rfl,rfl⟩⟩,hX1,by simp; omega⟩,HA4.out.kept fun b cs hb=>hoth b (fun e=>by rw [e,hblk] at hb; cases hb)⟩
   rw[← HHW.out,← HHH.out]
   simp[World.setCell,Array.getElem?_modify,hblk]
  refine wpAnyH_ready (rs:=[11]) (by kernel_rfl) (by simp) ?_
  refine AllReadyH.cons rfl (fun K1 hK=>?_) AllReadyH.nil
  refine if_wanted (wanted_none rfl) ?_
  simp only [List.getElem_toArray,List.getElem_cons_zero,List.getElem_cons_succ]
  go_simp
  refine hK.out _ _ H2.out.1.1 (fun HS4=>?_)
  clear hK
  refine wpAnyH_done (by kernel_rfl) ?_ _
  generalize ((((u3.setCell ⟨u2.heap.size,0,none⟩ (.int .i64 hw)).setCell ⟨u2.heap.size,1,none⟩ (.int .i64 hh)).setCell ⟨u2.heap.size,2,none⟩ (.slice none 0 0)).setCell ⟨u2.heap.size,3,none⟩ (.slice pk kn ck))=w4 at H2 ⊢
  clear HS4 hblk z0 z1 z2 z3 zf zl hzz HA4 hX1 HS0 HS3
  generalize u2.heap.size=X at H2 ⊢
  have wm:IntKind.i64.wrap (hw * hh)=(pixN p0:Int):=by rw [← hN,IntKind.wrap_i64]; omega
  go_wp2_with fail
  go_loopw [5] (fun i u=>∃ k:Nat,k≤pixN p0∧i=.int .i64 (k:Int)∧Hid (MlI w #[.int .i64 hw,.int .i64 hh,.int .i64 hd,.int .i64 hc',.bool lace,.slice ta tn tc,.slice ca cn cc,.int .i64 rw',.int .i64 rh,.int .i64 rc,.int .i64 rd,.slice sa sn sc,.slice ka kn kc] p0 X (.slice pk kn ck) k u∧KSL u w.heap.size pk kn K)) (fun i _=>pixN p0 - (intOf i).toNat)
  case atStart=>exact⟨0,Nat.zero_le _,rfl,H2⟩
  case round=>
   clear H2
   obtain⟨k,hk,rfl,hI⟩:=hrel
   obtain⟨m1,⟨v,m2,m3⟩,m4,m5⟩:=id hI.out.1
   rw[← HHW.out,← HHH.out] at m2
   have xl:=block_lt m2
   have x0:=(cell_of_block m2 0).trans rfl
   have x1:=(cell_of_block m2 1).trans rfl
   have x2:=(cell_of_block m2 2).trans rfl
   have x3:=(cell_of_block m2 3).trans rfl
   have HM2:=hid_of m2
   by_cases hlt:k < pixN p0
   ·have dk:decide ((k:Int) < (pixN p0:Int))=true:=decide_eq_true (by omega)
    have dk2:decide (k < pixN p0)=true:=decide_eq_true hlt
    have HF4:Hid (fints (pixL p0) (4 * (k+1))=fints (pixL p0) (4 * k) ++ [.int .i64 (pixV p0 k 0),.int .i64 (pixV p0 k 1),.int .i64 (pixV p0 k 2),.int .i64 (pixV p0 k 3)]):=by
     show _=_
     rw[fints_four]
     simp only [pixL,show (4 * k+0) / 4=k by omega,show (4 * k+0) % 4=0 by omega,show (4 * k+1) / 4=k by omega,show (4 * k+1) % 4=1 by omega,show (4 * k+2) / 4=k by omega,show (4 * k+2) % 4=2 by omega,show (4 * k+3) / 4=k by omega,show (4 * k+3) % 4=3 by omega]
    clear m1 m2 m3 m4 m5
    go_wp2_with fail
    have HS0:MoS w #[.int .i64 hw,.int .i64 hh,.int .i64 hd,.int .i64 hc',.bool lace,.slice ta tn tc,.slice ca cn cc,.int .i64 rw',.int .i64 rh,.int .i64 rc,.int .i64 rd,.slice sa sn sc,.slice ka kn kc] wr.drew:=hI.out.1.1.called (bdraws (Below.refl _ _) 1)
    have HI0:Hid (MlI w #[.int .i64 hw,.int .i64 hh,.int .i64 hd,.int .i64 hc',.bool lace,.slice ta tn tc,.slice ca cn cc,.int .i64 rw',.int .i64 rh,.int .i64 rc,.int .i64 rd,.slice sa sn sc,.slice ka kn kc] p0 X (.slice pk kn ck) k wr.drew∧KSL wr.drew w.heap.size pk kn K):=⟨hI.out.1.called (bdraws (Below.refl _ _) 1),hI.out.2.called (bdraws (Below.refl _ _) 1)⟩
    have HX0:Hid (wr.drew.heap[X]?=some (.cells #[.int .i64 hw,.int .i64 hh,v,.slice pk kn ck] 34 (0,0))):=HM2.out
    clear hI HM2 x0 x1 x2 x3 xl
    refine wp_region_held (S:=MoS w #[.int .i64 hw,.int .i64 hh,.int .i64 hd,.int .i64 hc',.bool lace,.slice ta tn tc,.slice ca cn cc,.int .i64 rw',.int .i64 rh,.int .i64 rc,.int .i64 rd,.slice sa sn sc,.slice ka kn kc]) (by kernel_rfl) ?_
    show wpAnyH _ _ _ _ _ _ _ _ wr.drew
    generalize wr.drew=u0 at HS0 HI0 HX0 ⊢
    refine wpAnyH_take (i:=0) (v:=.pointer (some ⟨X,2,none⟩)) rfl (by kernel_rfl) (by kernel_rfl) (by kernel_rfl) (fun _ _ _ h=>h) (Or.inl ⟨by rfl,?_⟩) HS0 ?_
    ·intro w' _
     go_simp
    simp only [Act.put,List.getElem_toArray,List.getElem_cons_zero,List.setIfInBounds_toArray,List.set_cons_zero,List.set_cons_succ]
    refine wpAnyH_take (i:=2) (v:=.agg #[.int .i64 hw,.int .i64 hh,.int .i64 hd,.int .i64 hc',.bool lace,.slice ta tn tc,.slice ca cn cc,.int .i64 rw',.int .i64 rh,.int .i64 rc,.int .i64 rd,.slice sa sn sc,.slice ka kn kc]) rfl (by kernel_rfl) (by kernel_rfl) (by kernel_rfl) (fun _ _ _ h=>h) (Or.inl ⟨by rfl,?_⟩) HS0 ?_
    ·intro w' hS
     have b0:=(cell_of_block hS.1 0).trans rfl; have b1:=(cell_of_block hS.1 1).trans rfl; have b2:=(cell_of_block hS.1 2).trans rfl; have b3:=(cell_of_block hS.1 3).trans rfl; have b4:=(cell_of_block hS.1 4).trans rfl; have b5:=(cell_of_block hS.1 5).trans rfl; have b6:=(cell_of_block hS.1 6).trans rfl; have b7:=(cell_of_block hS.1 7).trans rfl; have b8:=(cell_of_block hS.1 8).trans rfl; have b9:=(cell_of_block hS.1 9).trans rfl; have b10:=(cell_of_block hS.1 10).trans rfl; have b11:=(cell_of_block hS.1 11).trans rfl; have b12:=(cell_of_block hS.1 12).trans rfl; have bl:=block_lt hS.1
     go_simp
    simp only [Act.put,List.getElem_toArray,List.getElem_cons_zero,List.getElem_cons_succ,List.setIfInBounds_toArray,List.set_cons_zero,List.set_cons_succ]
    refine wpAnyH_take (i:=3) (v:=.int .i64 (k:Int)) rfl (by kernel_rfl) (by kernel_rfl) (by kernel_rfl) (fun _ _ _ h=>h) (Or.inl ⟨by rfl,?_⟩) HS0 ?_
    ·intro w' _
     go_simp
    simp only [Act.put,List.getElem_toArray,List.getElem_cons_zero,List.getElem_cons_succ,List.setIfInBounds_toArray,List.set_cons_zero,List.set_cons_succ]
    refine wpAnyH_ready (rs:=[1,4]) (by kernel_rfl) (by simp) ?_
    refine AllReadyH.cons rfl (fun K1 hK=>?_) (AllReadyH.cons rfl (fun K1 hK=>?_) AllReadyH.nil)
    ·refine if_wanted (wanted_none rfl) ?_
     simp only [List.getElem_toArray,List.getElem_cons_zero,List.getElem_cons_succ]
     have x2:u0.cell? ⟨X,2,none⟩=some v:=(cell_of_block HX0.out 2).trans rfl
     have xl:=block_lt HX0.out
     go_simp
     refine hK.out _ _ HS0 (fun _=>?_)
     clear hK x2 xl
     refine wpAnyH_ready (rs:=[4]) (by kernel_rfl) (by simp) ?_
     refine AllReadyH.cons rfl (fun K1 hK=>?_) AllReadyH.nil
     refine if_wanted (wanted_none rfl) ?_
     simp only [List.getElem_toArray,List.getElem_cons_zero,List.getElem_cons_succ]
     go_simp
     refine (hpx1.out k _ (HP.out.called HS0.2.2) hlt).mono ?_
     rintro e u1 ⟨gq,cq,rfl,hq,hql,hB⟩
     have HT:=HS0.called hB
     refine hK.out _ _ HT (fun HS1=>?_)
     have HQ:=hid_of hq
     have HI1:Hid (MlI w #[.int .i64 hw,.int .i64 hh,.int .i64 hd,.int .i64 hc',.bool lace,.slice ta tn tc,.slice ca cn cc,.int .i64 rw',.int .i64 rh,.int .i64 rc,.int .i64 rd,.slice sa sn sc,.slice ka kn kc] p0 X (.slice pk kn ck) k u1∧KSL u1 w.heap.size pk kn K):=⟨HI0.out.1.called hB,HI0.out.2.called hB⟩
     have hx1:=(hB.block _ (block_lt HX0.out)).trans HX0.out
     have HXC:Hid (u1.cell? ⟨X,2,none⟩=some v):=(cell_of_block hx1 2).trans rfl
     have HX1:=hid_of hx1
     clear hK hB HT hq hx1
     obtain⟨m1,⟨v',m2,m3⟩,m4,m5⟩:=id HI1.out.1
     obtain rfl:v'=v:=by
      have e1:=(cell_of_block m2 2).symm.trans HXC.out
      simpa using e1
     obtain⟨t0,hi0,hz0,hz1,hz2⟩:=info_parts info_int18
     have hnews:∀ (j:Nat) (y:Value),[Value.int .i64 (pixV p0 k 0),.int .i64 (pixV p0 k 1),.int .i64 (pixV p0 k 2),.int .i64 (pixV p0 k 3)][j]?=some y→u1.cell? ((⟨gq,0,none⟩:Addr).add j)=some y:=fun j y hy=>by
      rw[Addr.add_lit,Nat.zero_add]
      have hj:j < 4:=by
       rcases Nat.lt_or_ge j 4 with h | h
       ·exact h
       ·rw[List.getElem?_eq_none (by simpa using h)] at hy; cases hy
      rw[HQ.out j hj]
      have:j=0∨j=1∨j=2∨j=3:=by omega
      rcases this with rfl | rfl | rfl | rfl <;> simpa using hy
     obtain⟨v2,V3,hr,a2,a3,_,_⟩:=run_append_own_at (P:=Try.prog) u1 (X+1) 25 25 3 t0 (.int .i64 0) 1 8 Try.underlying25 hi0 hz0 hz1 hz2 rfl (by omega) v' (4 * k) _ m3 ⟨gq,0,none⟩ 4 cq [.int .i64 (pixV p0 k 0),.int .i64 (pixV p0 k 1),.int .i64 (pixV p0 k 2),.int .i64 (pixV p0 k 3)] rfl hnews (by simp [Value.oneCell']) (by unfold maxLen; omega) (by omega) m5
     obtain⟨va,vl,vc,rfl⟩:∃ a l c,v2=.slice a l c:=by
      rcases a2.2 with ⟨h,_⟩ | ⟨_,_,_,h,_⟩
      ·exact⟨_,_,_,h⟩
      ·exact⟨_,_,_,h⟩
     have hrow:∀ b,v'.ownBlock=some b→X+1≤b:=fun b hb=>(m3.lt b hb).1
     have j2:V3.heap[X]?=some (.cells #[.int .i64 p0.hw,.int .i64 p0.hh,v',.slice pk kn ck] 34 (0,0)):=(a3.block _ (block_lt m2) (fun e=>by have:=hrow _ e.symm; omega)).trans m2
     have d2:=(cell_of_block j2 2).trans rfl
     have df:∀ k,V3.frozen? ⟨X,k,none⟩=false:=unfrozen_of_block j2
     have dl:=block_lt j2
     have hV:∀ b,b < u1.heap.size→b < X→V3.heap[b]?=u1.heap[b]?:=fun b h1 h2=>a3.block b h1 (fun e=>by have:=hrow _ e.symm; omega)
     have HN:Hid (MlI w #[.int .i64 hw,.int .i64 hh,.int .i64 hd,.int .i64 hc',.bool lace,.slice ta tn tc,.slice ca cn cc,.int .i64 rw',.int .i64 rh,.int .i64 rc,.int .i64 rd,.slice sa sn sc,.slice ka kn kc] p0 X (.slice pk kn ck) (k+1) (V3.setCell ⟨X,2,none⟩ (.slice va vl vc))∧KSL (V3.setCell ⟨X,2,none⟩ (.slice va vl vc)) w.heap.size pk kn K):=by
      have hks:∀ (b:Nat) (cs:Array Value),u1.heap[b]?=some (.cells cs 72 (0,0))→(V3.setCell ⟨X,2,none⟩ (.slice va vl vc)).heap[b]?=u1.heap[b]?:=fun b cs hb=>by
       rw[Below.heap_setCell _ _ _ _ (by show b≠X; intro e; rw [e,m2] at hb; cases hb)]
       refine a3.block b (block_lt hb) (fun e=>?_)
       rcases m3.2 with ⟨h,_⟩ | ⟨g1,_,_,h,_,q2,_⟩
       ·rw[h] at e; simp [Value.ownBlock] at e
       ·rw[h] at e
        simp[Value.ownBlock] at e
        rw[e,q2] at hb
        cases hb
      obtain⟨n1,⟨Z,n2,n3⟩,n4⟩:=m1
      refine⟨⟨⟨?_,⟨Z,?_,n3⟩,(n4.grown a3 (by have:=n4.size; omega) (fun b hb=>by have:=hrow _ hb; omega)).setCell (p:=⟨X,2,none⟩) (by show w.heap.size≤X; omega) _⟩,⟨.slice va vl vc,by simp [World.setCell,Array.getElem?_modify,j2],?_⟩,m4,by have:=a3.size; simp; omega⟩,HI1.out.2.kept hks⟩
      ·rw[Below.heap_setCell _ _ _ _ (by show w.heap.size≠X; omega),hV _ (block_lt n1) (by omega)]; exact n1
      ·rw[Below.heap_setCell _ _ _ _ (by show w.heap.size+1≠X; omega),hV _ (block_lt n2) (by omega)]; exact n2
      ·rw[HF4.out,show 4 * (k+1)=4 * k+4 by omega]
       exact own_kept a2 fun b cs fz hb _=>Below.heap_setCell _ _ _ _ (by show b≠X; omega)
     refine wpAnyH_ready (rs:=[5]) (by kernel_rfl) (by simp) ?_
     refine AllReadyH.cons rfl (fun K1 hK=>?_) AllReadyH.nil
     refine if_wanted (wanted_none rfl) ?_
     simp only [List.getElem_toArray,List.getElem_cons_zero,List.getElem_cons_succ]
     refine step_append_run (.tmp 30) (.tmp 33) 25 rfl v' (.slice (some ⟨gq,0,none⟩) 4 cq) (by simp [Act.eval]) (by simp [Act.eval]) hr ?_
     have HM3:MoS w #[.int .i64 hw,.int .i64 hh,.int .i64 hd,.int .i64 hc',.bool lace,.slice ta tn tc,.slice ca cn cc,.int .i64 rw',.int .i64 rh,.int .i64 rc,.int .i64 rd,.slice sa sn sc,.slice ka kn kc] V3:=by
      obtain⟨n1,⟨Z,n2,n3⟩,n4⟩:=m1
      exact⟨(hV _ (block_lt n1) (by omega)).trans n1,⟨Z,(hV _ (block_lt n2) (by omega)).trans n2,n3⟩,n4.grown a3 (by have:=n4.size; omega) (fun b hb=>by have:=hrow _ hb; omega)⟩
     refine hK.out _ _ HM3 (fun _=>?_)
     simp only [Act.put,List.setIfInBounds_toArray,List.set_cons_zero,List.set_cons_succ]
     clear hK
     refine wpAnyH_take (i:=6) (v:=.pointer (some ⟨X,2,none⟩)) rfl (by kernel_rfl) (by kernel_rfl) (by kernel_rfl) (fun _ _ _ h=>h) (Or.inl ⟨by rfl,?_⟩) HM3 ?_
     ·intro w' _
      go_simp
     simp only [Act.put,List.getElem_toArray,List.getElem_cons_zero,List.getElem_cons_succ,List.setIfInBounds_toArray,List.set_cons_zero,List.set_cons_succ]
     refine wpAnyH_ready (rs:=[7]) (by kernel_rfl) (by simp) ?_
     refine AllReadyH.cons rfl (fun K1 hK=>?_) AllReadyH.nil
     refine if_wanted (wanted_none rfl) ?_
     simp only [List.getElem_toArray,List.getElem_cons_zero,List.getElem_cons_succ]
     go_simp
     refine hK.out _ _ HN.out.1.1 (fun _=>?_)
     clear hK
     refine wpAnyH_done (by kernel_rfl) ?_ _
     clear m1 m2 m3 m4 m5 hr a2 a3 hrow j2 d2 df dl hV HM3 hnews hi0 hz0 hz1 hz2
     go_wp2_with fail
     go_roundw
     case rel=>exact⟨k+1,by omega,by go_num,HN⟩
     case measure=>simp [intOf]; omega
    ·refine if_wanted (wanted_none rfl) ?_
     simp only [List.getElem_toArray,List.getElem_cons_zero,List.getElem_cons_succ]
     go_simp
     refine (hpx1.out k _ (HP.out.called HS0.2.2) hlt).mono ?_
     rintro e u1 ⟨gq,cq,rfl,hq,hql,hB⟩
     have HT:=HS0.called hB
     refine hK.out _ _ HT (fun HS1=>?_)
     have HQ:=hid_of hq
     have HI1:Hid (MlI w #[.int .i64 hw,.int .i64 hh,.int .i64 hd,.int .i64 hc',.bool lace,.slice ta tn tc,.slice ca cn cc,.int .i64 rw',.int .i64 rh,.int .i64 rc,.int .i64 rd,.slice sa sn sc,.slice ka kn kc] p0 X (.slice pk kn ck) k u1∧KSL u1 w.heap.size pk kn K):=⟨HI0.out.1.called hB,HI0.out.2.called hB⟩
     have hx1:=(hB.block _ (block_lt HX0.out)).trans HX0.out
     have HXC:Hid (u1.cell? ⟨X,2,none⟩=some v):=(cell_of_block hx1 2).trans rfl
     have HX1:=hid_of hx1
     clear hK hB HT hq hx1
     have x2:=HXC.out
     have xl:=block_lt HX1.out
     refine wpAnyH_ready (rs:=[1]) (by kernel_rfl) (by simp) ?_
     refine AllReadyH.cons rfl (fun K1 hK=>?_) AllReadyH.nil
     refine if_wanted (wanted_none rfl) ?_
     simp only [List.getElem_toArray,List.getElem_cons_zero,List.getElem_cons_succ]
     go_simp
     refine hK.out _ _ HS1 (fun _=>?_)
     clear hK x2 xl
     obtain⟨m1,⟨v',m2,m3⟩,m4,m5⟩:=id HI1.out.1
     obtain rfl:v'=v:=by
      have e1:=(cell_of_block m2 2).symm.trans HXC.out
      simpa using e1
     obtain⟨t0,hi0,hz0,hz1,hz2⟩:=info_parts info_int18
     have hnews:∀ (j:Nat) (y:Value),[Value.int .i64 (pixV p0 k 0),.int .i64 (pixV p0 k 1),.int .i64 (pixV p0 k 2),.int .i64 (pixV p0 k 3)][j]?=some y→u1.cell? ((⟨gq,0,none⟩:Addr).add j)=some y:=fun j y hy=>by
      rw[Addr.add_lit,Nat.zero_add]
      have hj:j < 4:=by
       rcases Nat.lt_or_ge j 4 with h | h
       ·exact h
       ·rw[List.getElem?_eq_none (by simpa using h)] at hy; cases hy
      rw[HQ.out j hj]
      have:j=0∨j=1∨j=2∨j=3:=by omega
      rcases this with rfl | rfl | rfl | rfl <;> simpa using hy
     obtain⟨v2,V3,hr,a2,a3,_,_⟩:=run_append_own_at (P:=Try.prog) u1 (X+1) 25 25 3 t0 (.int .i64 0) 1 8 Try.underlying25 hi0 hz0 hz1 hz2 rfl (by omega) v' (4 * k) _ m3 ⟨gq,0,none⟩ 4 cq [.int .i64 (pixV p0 k 0),.int .i64 (pixV p0 k 1),.int .i64 (pixV p0 k 2),.int .i64 (pixV p0 k 3)] rfl hnews (by simp [Value.oneCell']) (by unfold maxLen; omega) (by omega) m5
     obtain⟨va,vl,vc,rfl⟩:∃ a l c,v2=.slice a l c:=by
      rcases a2.2 with ⟨h,_⟩ | ⟨_,_,_,h,_⟩
      ·exact⟨_,_,_,h⟩
      ·exact⟨_,_,_,h⟩
     have hrow:∀ b,v'.ownBlock=some b→X+1≤b:=fun b hb=>(m3.lt b hb).1
     have j2:V3.heap[X]?=some (.cells #[.int .i64 p0.hw,.int .i64 p0.hh,v',.slice pk kn ck] 34 (0,0)):=(a3.block _ (block_lt m2) (fun e=>by have:=hrow _ e.symm; omega)).trans m2
     have d2:=(cell_of_block j2 2).trans rfl
     have df:∀ k,V3.frozen? ⟨X,k,none⟩=false:=unfrozen_of_block j2
     have dl:=block_lt j2
     have hV:∀ b,b < u1.heap.size→b < X→V3.heap[b]?=u1.heap[b]?:=fun b h1 h2=>a3.block b h1 (fun e=>by have:=hrow _ e.symm; omega)
     have HN:Hid (MlI w #[.int .i64 hw,.int .i64 hh,.int .i64 hd,.int .i64 hc',.bool lace,.slice ta tn tc,.slice ca cn cc,.int .i64 rw',.int .i64 rh,.int .i64 rc,.int .i64 rd,.slice sa sn sc,.slice ka kn kc] p0 X (.slice pk kn ck) (k+1) (V3.setCell ⟨X,2,none⟩ (.slice va vl vc))∧KSL (V3.setCell ⟨X,2,none⟩ (.slice va vl vc)) w.heap.size pk kn K):=by
      have hks:∀ (b:Nat) (cs:Array Value),u1.heap[b]?=some (.cells cs 72 (0,0))→(V3.setCell ⟨X,2,none⟩ (.slice va vl vc)).heap[b]?=u1.heap[b]?:=fun b cs hb=>by
       rw[Below.heap_setCell _ _ _ _ (by show b≠X; intro e; rw [e,m2] at hb; cases hb)]
       refine a3.block b (block_lt hb) (fun e=>?_)
       rcases m3.2 with ⟨h,_⟩ | ⟨g1,_,_,h,_,q2,_⟩
       ·rw[h] at e; simp [Value.ownBlock] at e
       ·rw[h] at e
        simp[Value.ownBlock] at e
        rw[e,q2] at hb
        cases hb
      obtain⟨n1,⟨Z,n2,n3⟩,n4⟩:=m1
      refine⟨⟨⟨?_,⟨Z,?_,n3⟩,(n4.grown a3 (by have:=n4.size; omega) (fun b hb=>by have:=hrow _ hb; omega)).setCell (p:=⟨X,2,none⟩) (by show w.heap.size≤X; omega) _⟩,⟨.slice va vl vc,by simp [World.setCell,Array.getElem?_modify,j2],?_⟩,m4,by have:=a3.size; simp; omega⟩,HI1.out.2.kept hks⟩
      ·rw[Below.heap_setCell _ _ _ _ (by show w.heap.size≠X; omega),hV _ (block_lt n1) (by omega)]; exact n1
      ·rw[Below.heap_setCell _ _ _ _ (by show w.heap.size+1≠X; omega),hV _ (block_lt n2) (by omega)]; exact n2
      ·rw[HF4.out,show 4 * (k+1)=4 * k+4 by omega]
       exact own_kept a2 fun b cs fz hb _=>Below.heap_setCell _ _ _ _ (by show b≠X; omega)
     refine wpAnyH_ready (rs:=[5]) (by kernel_rfl) (by simp) ?_
     refine AllReadyH.cons rfl (fun K1 hK=>?_) AllReadyH.nil
     refine if_wanted (wanted_none rfl) ?_
     simp only [List.getElem_toArray,List.getElem_cons_zero,List.getElem_cons_succ]
     refine step_append_run (.tmp 30) (.tmp 33) 25 rfl v' (.slice (some ⟨gq,0,none⟩) 4 cq) (by simp [Act.eval]) (by simp [Act.eval]) hr ?_
     have HM3:MoS w #[.int .i64 hw,.int .i64 hh,.int .i64 hd,.int .i64 hc',.bool lace,.slice ta tn tc,.slice ca cn cc,.int .i64 rw',.int .i64 rh,.int .i64 rc,.int .i64 rd,.slice sa sn sc,.slice ka kn kc] V3:=by
      obtain⟨n1,⟨Z,n2,n3⟩,n4⟩:=m1
      exact⟨(hV _ (block_lt n1) (by omega)).trans n1,⟨Z,(hV _ (block_lt n2) (by omega)).trans n2,n3⟩,n4.grown a3 (by have:=n4.size; omega) (fun b hb=>by have:=hrow _ hb; omega)⟩
     refine hK.out _ _ HM3 (fun _=>?_)
     simp only [Act.put,List.setIfInBounds_toArray,List.set_cons_zero,List.set_cons_succ]
     clear hK
     refine wpAnyH_take (i:=6) (v:=.pointer (some ⟨X,2,none⟩)) rfl (by kernel_rfl) (by kernel_rfl) (by kernel_rfl) (fun _ _ _ h=>h) (Or.inl ⟨by rfl,?_⟩) HM3 ?_
     ·intro w' _
      go_simp
     simp only [Act.put,List.getElem_toArray,List.getElem_cons_zero,List.getElem_cons_succ,List.setIfInBounds_toArray,List.set_cons_zero,List.set_cons_succ]
     refine wpAnyH_ready (rs:=[7]) (by kernel_rfl) (by simp) ?_
     refine AllReadyH.cons rfl (fun K1 hK=>?_) AllReadyH.nil
     refine if_wanted (wanted_none rfl) ?_
     simp only [List.getElem_toArray,List.getElem_cons_zero,List.getElem_cons_succ]
     go_simp
     refine hK.out _ _ HN.out.1.1 (fun _=>?_)
     clear hK
     refine wpAnyH_done (by kernel_rfl) ?_ _
     clear m1 m2 m3 m4 m5 hr a2 a3 hrow j2 d2 df dl hV HM3 hnews hi0 hz0 hz1 hz2
     go_wp2_with fail
     go_roundw
     case rel=>exact⟨k+1,by omega,by go_num,HN⟩
     case measure=>simp [intOf]; omega
   ·obtain rfl:k=pixN p0:=by omega
    have hpos:1≤hw * hh:=by
     have:=Int.mul_le_mul hw0 hh0 (by omega) (by omega)
     omega
    obtain⟨gl,cl,cur,rfl,q1,q2,q3,q4,q5,q6⟩:∃ gl cl cur,v=.slice (some ⟨gl,0,none⟩) (4 * pixN p0) cl∧X+1≤gl∧wr.heap[gl]?=some (.cells cur 3 (0,0))∧4 * pixN p0≤cl∧cl≤maxLen∧cur.size=cl * 1∧cur.toList.take (4 * pixN p0 * 1)=fints (pixL p0) (4 * pixN p0):=by
     rcases m3.2 with ⟨_,h⟩ | h
     ·omega
     ·exact h
    have dk:decide ((pixN p0:Int) < (pixN p0:Int))=false:=decide_eq_false (by omega)
    obtain⟨⟨z0,z1,z2,z3,y0,y1,y2,y3⟩,yf,yl⟩:=m1.cells
    have HF:Hid (MoS w #[.int .i64 hw,.int .i64 hh,.int .i64 hd,.int .i64 hc',.bool lace,.slice ta tn tc,.slice ca cn cc,.int .i64 rw',.int .i64 rh,.int .i64 rc,.int .i64 rd,.slice sa sn sc,.slice ka kn kc] ((((wr.setCell ⟨w.heap.size+1,0,none⟩ (.int .i64 hw)).setCell ⟨w.heap.size+1,1,none⟩ (.int .i64 hh)).setCell ⟨w.heap.size+1,2,none⟩ (.slice (some ⟨gl,0,none⟩) (4 * pixN p0) cl)).setCell ⟨w.heap.size+1,3,none⟩ (.slice pk kn ck))):=(((m1.set 0 _).set 1 _).set 2 _).set 3 _
    have hoth:∀ b,b≠w.heap.size+1→((((wr.setCell ⟨w.heap.size+1,0,none⟩ (.int .i64 hw)).setCell ⟨w.heap.size+1,1,none⟩ (.int .i64 hh)).setCell ⟨w.heap.size+1,2,none⟩ (.slice (some ⟨gl,0,none⟩) (4 * pixN p0) cl)).setCell ⟨w.heap.size+1,3,none⟩ (.slice pk kn ck)).heap[b]?=wr.heap[b]?:=fun b hb=>by
     rw[Below.heap_setCell _ _ _ _ hb,Below.heap_setCell _ _ _ _ hb,Below.heap_setCell _ _ _ _ hb,Below.heap_setCell _ _ _ _ hb]
    have HSL:Hid (SL ((((wr.setCell ⟨w.heap.size+1,0,none⟩ (.int .i64 hw)).setCell ⟨w.heap.size+1,1,none⟩ (.int .i64 hh)).setCell ⟨w.heap.size+1,2,none⟩ (.slice (some ⟨gl,0,none⟩) (4 * pixN p0) cl)).setCell ⟨w.heap.size+1,3,none⟩ (.slice pk kn ck)) w.heap.size (some ⟨gl,0,none⟩) (4 * pixN p0) cl (pixL p0)∧KSL ((((wr.setCell ⟨w.heap.size+1,0,none⟩ (.int .i64 hw)).setCell ⟨w.heap.size+1,1,none⟩ (.int .i64 hh)).setCell ⟨w.heap.size+1,2,none⟩ (.slice (some ⟨gl,0,none⟩) (4 * pixN p0) cl)).setCell ⟨w.heap.size+1,3,none⟩ (.slice pk kn ck)) w.heap.size pk kn K):=by
     refine⟨.inr ⟨gl,rfl,cl,cur,(0,0),by rw [fints_length],by omega,(hoth _ (by omega)).trans q2,.inl rfl,by rw [fints_length]; exact q3,q4,by simpa using q5,by rw [fints_length]; simpa using q6⟩,hI.out.2.kept fun b cs hb=>hoth b (fun e=>?_)⟩
     obtain⟨_,⟨Z,h2,_⟩,_⟩:=m1
     rw[e,h2] at hb
     cases hb
    clear q1 q2 q3 q4 q5 q6 hoth m1 m2 m3 m4 m5 hpos
    go_wp2_with fail
    refine bodyPost_ret (v:=.tuple #[.agg #[.int .i64 hw,.int .i64 hh,.slice (some ⟨gl,0,none⟩) (4 * pixN p0) cl,.slice pk kn ck],.bool true]) ?_ rfl (HY.out _ _ _ _ _ HSL.out.1 HSL.out.2 HF.out.2.2)
    simp[results,Try.results7,go_sem, *]
 ·refine if_wanted (wanted_none rfl) ?_
  simp only [List.getElem_toArray,List.getElem_cons_zero,List.getElem_cons_succ]
  go_simp
  refine hK.out _ _ (HS0.called (bstart u0 (.cells #[.int .i64 0,.int .i64 0,.slice none 0 0,.slice none 0 0] 34))) (fun HS1=>?_)
  clear hK
  have hblk0:(u0.alloc (.cells #[.int .i64 0,.int .i64 0,.slice none 0 0,.slice none 0 0] 34)).heap[u0.heap.size]?=some (.cells #[.int .i64 0,.int .i64 0,.slice none 0 0,.slice none 0 0] 34 (0,0)):=heap_alloc_new u0 _
  have hX1:w.heap.size+1 < u0.heap.size:=HS0.cells.2.2
  generalize u0.alloc (.cells #[.int .i64 0,.int .i64 0,.slice none 0 0,.slice none 0 0] 34)=u1 at HS1 hblk0 ⊢
  refine wpAnyH_ready (rs:=[8]) (by kernel_rfl) (by simp) ?_
  refine AllReadyH.cons rfl (fun K1 hK=>?_) AllReadyH.nil
  refine if_wanted (wanted_none rfl) ?_
  simp only [List.getElem_toArray,List.getElem_cons_zero,List.getElem_cons_succ]
  go_simp
  refine (hcp _ (HKC.out.called HS1.2.2) hk1).mono ?_
  rintro e u2 ⟨pk,ck,rfl,hS2,hB⟩
  have HT:=HS1.called hB
  refine hK.out _ _ HT (fun HS2=>?_)
  have HA4:Hid (KSL u2 w.heap.size pk kn K):=ksl_low hS2 HS1.2.2.size
  have hblk:=(hB.block _ (block_lt hblk0)).trans hblk0
  have hzz:u0.heap.size+1≤u2.heap.size:=Nat.lt_of_lt_of_le (block_lt hblk0) hB.size
  clear hK hB HT hS2 hblk0 HS1
  refine wpAnyH_take (i:=9) (v:=.agg #[.int .i64 hw,.int .i64 hh,.slice none 0 0,.slice pk kn ck]) rfl (by kernel_rfl) (by kernel_rfl) (by kernel_rfl) (fun _ _ _ h=>h) (Or.inl ⟨by rfl,?_⟩) HS2 ?_
  ·intro w' _
   go_simp
  simp only [Act.put,List.getElem_toArray,List.getElem_cons_zero,List.getElem_cons_succ,List.setIfInBounds_toArray,List.set_cons_zero,List.set_cons_succ]
  have z0:=(cell_of_block hblk 0).trans rfl
  have z1:=(cell_of_block hblk 1).trans rfl
  have z2:=(cell_of_block hblk 2).trans rfl
  have z3:=(cell_of_block hblk 3).trans rfl
  have zf:∀ k,u2.frozen? ⟨u0.heap.size,k,none⟩=false:=unfrozen_of_block hblk
  have zl:=block_lt hblk
  have H2:Hid (MlI w #[.int .i64 hw,.int .i64 hh,.int .i64 hd,.int .i64 hc',.bool lace,.slice ta tn tc,.slice ca cn cc,.int .i64 rw',.int .i64 rh,.int .i64 rc,.int .i64 rd,.slice sa sn sc,.slice ka kn kc] p0 u0.heap.size (.slice pk kn ck) 0 ((((u2.setCell ⟨u0.heap.size,0,none⟩ (.int .i64 hw)).setCell ⟨u0.heap.size,1,none⟩ (.int .i64 hh)).setCell ⟨u0.heap.size,2,none⟩ (.slice none 0 0)).setCell ⟨u0.heap.size,3,none⟩ (.slice pk kn ck))∧KSL ((((u2.setCell ⟨u0.heap.size,0,none⟩ (.int .i64 hw)).setCell ⟨u0.heap.size,1,none⟩ (.int .i64 hh)).setCell ⟨u0.heap.size,2,none⟩ (.slice none 0 0)).setCell ⟨u0.heap.size,3,none⟩ (.slice pk kn ck)) w.heap.size pk kn K):=by
   have hoth:∀ b,b≠u0.heap.size→((((u2.setCell ⟨u0.heap.size,0,none⟩ (.int .i64 hw)).setCell ⟨u0.heap.size,1,none⟩ (.int .i64 hh)).setCell ⟨u0.heap.size,2,none⟩ (.slice none 0 0)).setCell ⟨u0.heap.size,3,none⟩ (.slice pk kn ck)).heap[b]?=u2.heap[b]?:=fun b hb=>by
    rw[Below.heap_setCell _ _ _ _ hb,Below.heap_setCell _ _ _ _ hb,Below.heap_setCell _ _ _ _ hb,Below.heap_setCell _ _ _ _ hb]
   obtain⟨m1,⟨Z,m2,m3⟩,m4⟩:=HS2
   have hbl:Below w.heap.size w ((((u2.setCell ⟨u0.heap.size,0,none⟩ (.int .i64 hw)).setCell ⟨u0.heap.size,1,none⟩ (.int .i64 hh)).setCell ⟨u0.heap.size,2,none⟩ (.slice none 0 0)).setCell ⟨u0.heap.size,3,none⟩ (.slice pk kn ck)):=(((m4.setCell (p:=⟨u0.heap.size,0,none⟩) (by show w.heap.size≤u0.heap.size; omega) _).setCell (p:=⟨u0.heap.size,1,none⟩) (by show w.heap.size≤u0.heap.size; omega) _).setCell (p:=⟨u0.heap.size,2,none⟩) (by show w.heap.size≤u0.heap.size; omega) _).setCell (p:=⟨u0.heap.size,3,none⟩) (by show w.heap.size≤u0.heap.size; omega) _
   refine⟨⟨⟨(hoth _ (by omega)).trans m1,⟨Z,(hoth _ (by omega)).trans m2,m3⟩,hbl⟩,⟨.slice none 0 0,?_,rfl,.inl ⟨rfl,rfl⟩⟩,hX1,by simp; omega⟩,HA4.out.kept fun b cs hb=>hoth b (fun e=>by rw [e,hblk] at hb; cases hb)⟩
   rw[← HHW.out,← HHH.out]
   simp[World.setCell,Array.getElem?_modify,hblk]
  refine wpAnyH_ready (rs:=[11]) (by kernel_rfl) (by simp) ?_
  refine AllReadyH.cons rfl (fun K1 hK=>?_) AllReadyH.nil
  refine if_wanted (wanted_none rfl) ?_
  simp only [List.getElem_toArray,List.getElem_cons_zero,List.getElem_cons_succ]
  go_simp
  refine hK.out _ _ H2.out.1.1 (fun HS4=>?_)
  clear hK
  refine wpAnyH_done (by kernel_rfl) ?_ _
  generalize ((((u2.setCell ⟨u0.heap.size,0,none⟩ (.int .i64 hw)).setCell ⟨u0.heap.size,1,none⟩ (.int .i64 hh)).setCell ⟨u0.heap.size,2,none⟩ (.slice none 0 0)).setCell ⟨u0.heap.size,3,none⟩ (.slice pk kn ck))=w4 at H2 ⊢
  clear HS4 hblk z0 z1 z2 z3 zf zl hzz HA4 hX1 HS0 HS2
  generalize u0.heap.size=X at H2 ⊢
  have wm:IntKind.i64.wrap (hw * hh)=(pixN p0:Int):=by rw [← hN,IntKind.wrap_i64]; omega
  go_wp2_with fail
  go_loopw [5] (fun i u=>∃ k:Nat,k≤pixN p0∧i=.int .i64 (k:Int)∧Hid (MlI w #[.int .i64 hw,.int .i64 hh,.int .i64 hd,.int .i64 hc',.bool lace,.slice ta tn tc,.slice ca cn cc,.int .i64 rw',.int .i64 rh,.int .i64 rc,.int .i64 rd,.slice sa sn sc,.slice ka kn kc] p0 X (.slice pk kn ck) k u∧KSL u w.heap.size pk kn K)) (fun i _=>pixN p0 - (intOf i).toNat)
  case atStart=>exact⟨0,Nat.zero_le _,rfl,H2⟩
  case round=>
   clear H2
   obtain⟨k,hk,rfl,hI⟩:=hrel
   obtain⟨m1,⟨v,m2,m3⟩,m4,m5⟩:=id hI.out.1
   rw[← HHW.out,← HHH.out] at m2
   have xl:=block_lt m2
   have x0:=(cell_of_block m2 0).trans rfl
   have x1:=(cell_of_block m2 1).trans rfl
   have x2:=(cell_of_block m2 2).trans rfl
   have x3:=(cell_of_block m2 3).trans rfl
   have HM2:=hid_of m2
   by_cases hlt:k < pixN p0
   ·have dk:decide ((k:Int) < (pixN p0:Int))=true:=decide_eq_true (by omega)
    have dk2:decide (k < pixN p0)=true:=decide_eq_true hlt
    have HF4:Hid (fints (pixL p0) (4 * (k+1))=fints (pixL p0) (4 * k) ++ [.int .i64 (pixV p0 k 0),.int .i64 (pixV p0 k 1),.int .i64 (pixV p0 k 2),.int .i64 (pixV p0 k 3)]):=by
     show _=_
     rw[fints_four]
     simp only [pixL,show (4 * k+0) / 4=k by omega,show (4 * k+0) % 4=0 by omega,show (4 * k+1) / 4=k by omega,show (4 * k+1) % 4=1 by omega,show (4 * k+2) / 4=k by omega,show (4 * k+2) % 4=2 by omega,show (4 * k+3) / 4=k by omega,show (4 * k+3) % 4=3 by omega]
    clear m1 m2 m3 m4 m5
    go_wp2_with fail
    have HS0:MoS w #[.int .i64 hw,.int .i64 hh,.int .i64 hd,.int .i64 hc',.bool lace,.slice ta tn tc,.slice ca cn cc,.int .i64 rw',.int .i64 rh,.int .i64 rc,.int .i64 rd,.slice sa sn sc,.slice ka kn kc] wr.drew:=hI.out.1.1.called (bdraws (Below.refl _ _) 1)
    have HI0:Hid (MlI w #[.int .i64 hw,.int .i64 hh,.int .i64 hd,.int .i64 hc',.bool lace,.slice ta tn tc,.slice ca cn cc,.int .i64 rw',.int .i64 rh,.int .i64 rc,.int .i64 rd,.slice sa sn sc,.slice ka kn kc] p0 X (.slice pk kn ck) k wr.drew∧KSL wr.drew w.heap.size pk kn K):=⟨hI.out.1.called (bdraws (Below.refl _ _) 1),hI.out.2.called (bdraws (Below.refl _ _) 1)⟩
    have HX0:Hid (wr.drew.heap[X]?=some (.cells #[.int .i64 hw,.int .i64 hh,v,.slice pk kn ck] 34 (0,0))):=HM2.out
    clear hI HM2 x0 x1 x2 x3 xl
    refine wp_region_held (S:=MoS w #[.int .i64 hw,.int .i64 hh,.int .i64 hd,.int .i64 hc',.bool lace,.slice ta tn tc,.slice ca cn cc,.int .i64 rw',.int .i64 rh,.int .i64 rc,.int .i64 rd,.slice sa sn sc,.slice ka kn kc]) (by kernel_rfl) ?_
    show wpAnyH _ _ _ _ _ _ _ _ wr.drew
    generalize wr.drew=u0 at HS0 HI0 HX0 ⊢
    refine wpAnyH_take (i:=0) (v:=.pointer (some ⟨X,2,none⟩)) rfl (by kernel_rfl) (by kernel_rfl) (by kernel_rfl) (fun _ _ _ h=>h) (Or.inl ⟨by rfl,?_⟩) HS0 ?_
    ·intro w' _
     go_simp
    simp only [Act.put,List.getElem_toArray,List.getElem_cons_zero,List.setIfInBounds_toArray,List.set_cons_zero,List.set_cons_succ]
    refine wpAnyH_take (i:=2) (v:=.agg #[.int .i64 hw,.int .i64 hh,.int .i64 hd,.int .i64 hc',.bool lace,.slice ta tn tc,.slice ca cn cc,.int .i64 rw',.int .i64 rh,.int .i64 rc,.int .i64 rd,.slice sa sn sc,.slice ka kn kc]) rfl (by kernel_rfl) (by kernel_rfl) (by kernel_rfl) (fun _ _ _ h=>h) (Or.inl ⟨by rfl,?_⟩) HS0 ?_
    ·intro w' hS
     have b0:=(cell_of_block hS.1 0).trans rfl; have b1:=(cell_of_block hS.1 1).trans rfl; have b2:=(cell_of_block hS.1 2).trans rfl; have b3:=(cell_of_block hS.1 3).trans rfl; have b4:=(cell_of_block hS.1 4).trans rfl; have b5:=(cell_of_block hS.1 5).trans rfl; have b6:=(cell_of_block hS.1 6).trans rfl; have b7:=(cell_of_block hS.1 7).trans rfl; have b8:=(cell_of_block hS.1 8).trans rfl; have b9:=(cell_of_block hS.1 9).trans rfl; have b10:=(cell_of_block hS.1 10).trans rfl; have b11:=(cell_of_block hS.1 11).trans rfl; have b12:=(cell_of_block hS.1 12).trans rfl; have bl:=block_lt hS.1
     go_simp
    simp only [Act.put,List.getElem_toArray,List.getElem_cons_zero,List.getElem_cons_succ,List.setIfInBounds_toArray,List.set_cons_zero,List.set_cons_succ]
    refine wpAnyH_take (i:=3) (v:=.int .i64 (k:Int)) rfl (by kernel_rfl) (by kernel_rfl) (by kernel_rfl) (fun _ _ _ h=>h) (Or.inl ⟨by rfl,?_⟩) HS0 ?_
    ·intro w' _
     go_simp
    simp only [Act.put,List.getElem_toArray,List.getElem_cons_zero,List.getElem_cons_succ,List.setIfInBounds_toArray,List.set_cons_zero,List.set_cons_succ]
    refine wpAnyH_ready (rs:=[1,4]) (by kernel_rfl) (by simp) ?_
    refine AllReadyH.cons rfl (fun K1 hK=>?_) (AllReadyH.cons rfl (fun K1 hK=>?_) AllReadyH.nil)
    ·refine if_wanted (wanted_none rfl) ?_
     simp only [List.getElem_toArray,List.getElem_cons_zero,List.getElem_cons_succ]
     have x2:u0.cell? ⟨X,2,none⟩=some v:=(cell_of_block HX0.out 2).trans rfl
     have xl:=block_lt HX0.out
     go_simp
     refine hK.out _ _ HS0 (fun _=>?_)
     clear hK x2 xl
     refine wpAnyH_ready (rs:=[4]) (by kernel_rfl) (by simp) ?_
     refine AllReadyH.cons rfl (fun K1 hK=>?_) AllReadyH.nil
     refine if_wanted (wanted_none rfl) ?_
     simp only [List.getElem_toArray,List.getElem_cons_zero,List.getElem_cons_succ]
     go_simp
     refine (hpx1.out k _ (HP.out.called HS0.2.2) hlt).mono ?_
     rintro e u1 ⟨gq,cq,rfl,hq,hql,hB⟩
     have HT:=HS0.called hB
     refine hK.out _ _ HT (fun HS1=>?_)
     have HQ:=hid_of hq
     have HI1:Hid (MlI w #[.int .i64 hw,.int .i64 hh,.int .i64 hd,.int .i64 hc',.bool lace,.slice ta tn tc,.slice ca cn cc,.int .i64 rw',.int .i64 rh,.int .i64 rc,.int .i64 rd,.slice sa sn sc,.slice ka kn kc] p0 X (.slice pk kn ck) k u1∧KSL u1 w.heap.size pk kn K):=⟨HI0.out.1.called hB,HI0.out.2.called hB⟩
     have hx1:=(hB.block _ (block_lt HX0.out)).trans HX0.out
     have HXC:Hid (u1.cell? ⟨X,2,none⟩=some v):=(cell_of_block hx1 2).trans rfl
     have HX1:=hid_of hx1
     clear hK hB HT hq hx1
     obtain⟨m1,⟨v',m2,m3⟩,m4,m5⟩:=id HI1.out.1
     obtain rfl:v'=v:=by
      have e1:=(cell_of_block m2 2).symm.trans HXC.out
      simpa using e1
     obtain⟨t0,hi0,hz0,hz1,hz2⟩:=info_parts info_int18
     have hnews:∀ (j:Nat) (y:Value),[Value.int .i64 (pixV p0 k 0),.int .i64 (pixV p0 k 1),.int .i64 (pixV p0 k 2),.int .i64 (pixV p0 k 3)][j]?=some y→u1.cell? ((⟨gq,0,none⟩:Addr).add j)=some y:=fun j y hy=>by
      rw[Addr.add_lit,Nat.zero_add]
      have hj:j < 4:=by
       rcases Nat.lt_or_ge j 4 with h | h
       ·exact h
       ·rw[List.getElem?_eq_none (by simpa using h)] at hy; cases hy
      rw[HQ.out j hj]
      have:j=0∨j=1∨j=2∨j=3:=by omega
      rcases this with rfl | rfl | rfl | rfl <;> simpa using hy
     obtain⟨v2,V3,hr,a2,a3,_,_⟩:=run_append_own_at (P:=Try.prog) u1 (X+1) 25 25 3 t0 (.int .i64 0) 1 8 Try.underlying25 hi0 hz0 hz1 hz2 rfl (by omega) v' (4 * k) _ m3 ⟨gq,0,none⟩ 4 cq [.int .i64 (pixV p0 k 0),.int .i64 (pixV p0 k 1),.int .i64 (pixV p0 k 2),.int .i64 (pixV p0 k 3)] rfl hnews (by simp [Value.oneCell']) (by unfold maxLen; omega) (by omega) m5
     obtain⟨va,vl,vc,rfl⟩:∃ a l c,v2=.slice a l c:=by
      rcases a2.2 with ⟨h,_⟩ | ⟨_,_,_,h,_⟩
      ·exact⟨_,_,_,h⟩
      ·exact⟨_,_,_,h⟩
     have hrow:∀ b,v'.ownBlock=some b→X+1≤b:=fun b hb=>(m3.lt b hb).1
     have j2:V3.heap[X]?=some (.cells #[.int .i64 p0.hw,.int .i64 p0.hh,v',.slice pk kn ck] 34 (0,0)):=(a3.block _ (block_lt m2) (fun e=>by have:=hrow _ e.symm; omega)).trans m2
     have d2:=(cell_of_block j2 2).trans rfl
     have df:∀ k,V3.frozen? ⟨X,k,none⟩=false:=unfrozen_of_block j2
     have dl:=block_lt j2
     have hV:∀ b,b < u1.heap.size→b < X→V3.heap[b]?=u1.heap[b]?:=fun b h1 h2=>a3.block b h1 (fun e=>by have:=hrow _ e.symm; omega)
     have HN:Hid (MlI w #[.int .i64 hw,.int .i64 hh,.int .i64 hd,.int .i64 hc',.bool lace,.slice ta tn tc,.slice ca cn cc,.int .i64 rw',.int .i64 rh,.int .i64 rc,.int .i64 rd,.slice sa sn sc,.slice ka kn kc] p0 X (.slice pk kn ck) (k+1) (V3.setCell ⟨X,2,none⟩ (.slice va vl vc))∧KSL (V3.setCell ⟨X,2,none⟩ (.slice va vl vc)) w.heap.size pk kn K):=by
      have hks:∀ (b:Nat) (cs:Array Value),u1.heap[b]?=some (.cells cs 72 (0,0))→(V3.setCell ⟨X,2,none⟩ (.slice va vl vc)).heap[b]?=u1.heap[b]?:=fun b cs hb=>by
       rw[Below.heap_setCell _ _ _ _ (by show b≠X; intro e; rw [e,m2] at hb; cases hb)]
       refine a3.block b (block_lt hb) (fun e=>?_)
       rcases m3.2 with ⟨h,_⟩ | ⟨g1,_,_,h,_,q2,_⟩
       ·rw[h] at e; simp [Value.ownBlock] at e
       ·rw[h] at e
        simp[Value.ownBlock] at e
        rw[e,q2] at hb
        cases hb
      obtain⟨n1,⟨Z,n2,n3⟩,n4⟩:=m1
      refine⟨⟨⟨?_,⟨Z,?_,n3⟩,(n4.grown a3 (by have:=n4.size; omega) (fun b hb=>by have:=hrow _ hb; omega)).setCell (p:=⟨X,2,none⟩) (by show w.heap.size≤X; omega) _⟩,⟨.slice va vl vc,by simp [World.setCell,Array.getElem?_modify,j2],?_⟩,m4,by have:=a3.size; simp; omega⟩,HI1.out.2.kept hks⟩
      ·rw[Below.heap_setCell _ _ _ _ (by show w.heap.size≠X; omega),hV _ (block_lt n1) (by omega)]; exact n1
      ·rw[Below.heap_setCell _ _ _ _ (by show w.heap.size+1≠X; omega),hV _ (block_lt n2) (by omega)]; exact n2
      ·rw[HF4.out,show 4 * (k+1)=4 * k+4 by omega]
       exact own_kept a2 fun b cs fz hb _=>Below.heap_setCell _ _ _ _ (by show b≠X; omega)
     refine wpAnyH_ready (rs:=[5]) (by kernel_rfl) (by simp) ?_
     refine AllReadyH.cons rfl (fun K1 hK=>?_) AllReadyH.nil
     refine if_wanted (wanted_none rfl) ?_
     simp only [List.getElem_toArray,List.getElem_cons_zero,List.getElem_cons_succ]
     refine step_append_run (.tmp 30) (.tmp 33) 25 rfl v' (.slice (some ⟨gq,0,none⟩) 4 cq) (by simp [Act.eval]) (by simp [Act.eval]) hr ?_
     have HM3:MoS w #[.int .i64 hw,.int .i64 hh,.int .i64 hd,.int .i64 hc',.bool lace,.slice ta tn tc,.slice ca cn cc,.int .i64 rw',.int .i64 rh,.int .i64 rc,.int .i64 rd,.slice sa sn sc,.slice ka kn kc] V3:=by
      obtain⟨n1,⟨Z,n2,n3⟩,n4⟩:=m1
      exact⟨(hV _ (block_lt n1) (by omega)).trans n1,⟨Z,(hV _ (block_lt n2) (by omega)).trans n2,n3⟩,n4.grown a3 (by have:=n4.size; omega) (fun b hb=>by have:=hrow _ hb; omega)⟩
     refine hK.out _ _ HM3 (fun _=>?_)
     simp only [Act.put,List.setIfInBounds_toArray,List.set_cons_zero,List.set_cons_succ]
     clear hK
     refine wpAnyH_take (i:=6) (v:=.pointer (some ⟨X,2,none⟩)) rfl (by kernel_rfl) (by kernel_rfl) (by kernel_rfl) (fun _ _ _ h=>h) (Or.inl ⟨by rfl,?_⟩) HM3 ?_
     ·intro w' _
      go_simp
     simp only [Act.put,List.getElem_toArray,List.getElem_cons_zero,List.getElem_cons_succ,List.setIfInBounds_toArray,List.set_cons_zero,List.set_cons_succ]
     refine wpAnyH_ready (rs:=[7]) (by kernel_rfl) (by simp) ?_
     refine AllReadyH.cons rfl (fun K1 hK=>?_) AllReadyH.nil
     refine if_wanted (wanted_none rfl) ?_
     simp only [List.getElem_toArray,List.getElem_cons_zero,List.getElem_cons_succ]
     go_simp
     refine hK.out _ _ HN.out.1.1 (fun _=>?_)
     clear hK
     refine wpAnyH_done (by kernel_rfl) ?_ _
     clear m1 m2 m3 m4 m5 hr a2 a3 hrow j2 d2 df dl hV HM3 hnews hi0 hz0 hz1 hz2
     go_wp2_with fail
     go_roundw
     case rel=>exact⟨k+1,by omega,by go_num,HN⟩
     case measure=>simp [intOf]; omega
    ·refine if_wanted (wanted_none rfl) ?_
     simp only [List.getElem_toArray,List.getElem_cons_zero,List.getElem_cons_succ]
     go_simp
     refine (hpx1.out k _ (HP.out.called HS0.2.2) hlt).mono ?_
     rintro e u1 ⟨gq,cq,rfl,hq,hql,hB⟩
     have HT:=HS0.called hB
     refine hK.out _ _ HT (fun HS1=>?_)
     have HQ:=hid_of hq
     have HI1:Hid (MlI w #[.int .i64 hw,.int .i64 hh,.int .i64 hd,.int .i64 hc',.bool lace,.slice ta tn tc,.slice ca cn cc,.int .i64 rw',.int .i64 rh,.int .i64 rc,.int .i64 rd,.slice sa sn sc,.slice ka kn kc] p0 X (.slice pk kn ck) k u1∧KSL u1 w.heap.size pk kn K):=⟨HI0.out.1.called hB,HI0.out.2.called hB⟩
     have hx1:=(hB.block _ (block_lt HX0.out)).trans HX0.out
     have HXC:Hid (u1.cell? ⟨X,2,none⟩=some v):=(cell_of_block hx1 2).trans rfl
     have HX1:=hid_of hx1
     clear hK hB HT hq hx1
     have x2:=HXC.out
     have xl:=block_lt HX1.out
     refine wpAnyH_ready (rs:=[1]) (by kernel_rfl) (by simp) ?_
     refine AllReadyH.cons rfl (fun K1 hK=>?_) AllReadyH.nil
     refine if_wanted (wanted_none rfl) ?_
     simp only [List.getElem_toArray,List.getElem_cons_zero,List.getElem_cons_succ]
     go_simp
     refine hK.out _ _ HS1 (fun _=>?_)
     clear hK x2 xl
     obtain⟨m1,⟨v',m2,m3⟩,m4,m5⟩:=id HI1.out.1
     obtain rfl:v'=v:=by
      have e1:=(cell_of_block m2 2).symm.trans HXC.out
      simpa using e1
     obtain⟨t0,hi0,hz0,hz1,hz2⟩:=info_parts info_int18
     have hnews:∀ (j:Nat) (y:Value),[Value.int .i64 (pixV p0 k 0),.int .i64 (pixV p0 k 1),.int .i64 (pixV p0 k 2),.int .i64 (pixV p0 k 3)][j]?=some y→u1.cell? ((⟨gq,0,none⟩:Addr).add j)=some y:=fun j y hy=>by
      rw[Addr.add_lit,Nat.zero_add]
      have hj:j < 4:=by
       rcases Nat.lt_or_ge j 4 with h | h
       ·exact h
       ·rw[List.getElem?_eq_none (by simpa using h)] at hy; cases hy
      rw[HQ.out j hj]
      have:j=0∨j=1∨j=2∨j=3:=by omega
      rcases this with rfl | rfl | rfl | rfl <;> simpa using hy
     obtain⟨v2,V3,hr,a2,a3,_,_⟩:=run_append_own_at (P:=Try.prog) u1 (X+1) 25 25 3 t0 (.int .i64 0) 1 8 Try.underlying25 hi0 hz0 hz1 hz2 rfl (by omega) v' (4 * k) _ m3 ⟨gq,0,none⟩ 4 cq [.int .i64 (pixV p0 k 0),.int .i64 (pixV p0 k 1),.int .i64 (pixV p0 k 2),.int .i64 (pixV p0 k 3)] rfl hnews (by simp [Value.oneCell']) (by unfold maxLen; omega) (by omega) m5
     obtain⟨va,vl,vc,rfl⟩:∃ a l c,v2=.slice a l c:=by
      rcases a2.2 with ⟨h,_⟩ | ⟨_,_,_,h,_⟩
      ·exact⟨_,_,_,h⟩
      ·exact⟨_,_,_,h⟩
     have hrow:∀ b,v'.ownBlock=some b→X+1≤b:=fun b hb=>(m3.lt b hb).1
     have j2:V3.heap[X]?=some (.cells #[.int .i64 p0.hw,.int .i64 p0.hh,v',.slice pk kn ck] 34 (0,0)):=(a3.block _ (block_lt m2) (fun e=>by have:=hrow _ e.symm; omega)).trans m2
     have d2:=(cell_of_block j2 2).trans rfl
     have df:∀ k,V3.frozen? ⟨X,k,none⟩=false:=unfrozen_of_block j2
     have dl:=block_lt j2
     have hV:∀ b,b < u1.heap.size→b < X→V3.heap[b]?=u1.heap[b]?:=fun b h1 h2=>a3.block b h1 (fun e=>by have:=hrow _ e.symm; omega)
     have HN:Hid (MlI w #[.int .i64 hw,.int .i64 hh,.int .i64 hd,.int .i64 hc',.bool lace,.slice ta tn tc,.slice ca cn cc,.int .i64 rw',.int .i64 rh,.int .i64 rc,.int .i64 rd,.slice sa sn sc,.slice ka kn kc] p0 X (.slice pk kn ck) (k+1) (V3.setCell ⟨X,2,none⟩ (.slice va vl vc))∧KSL (V3.setCell ⟨X,2,none⟩ (.slice va vl vc)) w.heap.size pk kn K):=by
      have hks:∀ (b:Nat) (cs:Array Value),u1.heap[b]?=some (.cells cs 72 (0,0))→(V3.setCell ⟨X,2,none⟩ (.slice va vl vc)).heap[b]?=u1.heap[b]?:=fun b cs hb=>by
       rw[Below.heap_setCell _ _ _ _ (by show b≠X; intro e; rw [e,m2] at hb; cases hb)]
       refine a3.block b (block_lt hb) (fun e=>?_)
       rcases m3.2 with ⟨h,_⟩ | ⟨g1,_,_,h,_,q2,_⟩
       ·rw[h] at e; simp [Value.ownBlock] at e
       ·rw[h] at e
        simp[Value.ownBlock] at e
        rw[e,q2] at hb
        cases hb
      obtain⟨n1,⟨Z,n2,n3⟩,n4⟩:=m1
      refine⟨⟨⟨?_,⟨Z,?_,n3⟩,(n4.grown a3 (by have:=n4.size; omega) (fun b hb=>by have:=hrow _ hb; omega)).setCell (p:=⟨X,2,none⟩) (by show w.heap.size≤X; omega) _⟩,⟨.slice va vl vc,by simp [World.setCell,Array.getElem?_modify,j2],?_⟩,m4,by have:=a3.size; simp; omega⟩,HI1.out.2.kept hks⟩
      ·rw[Below.heap_setCell _ _ _ _ (by show w.heap.size≠X; omega),hV _ (block_lt n1) (by omega)]; exact n1
      ·rw[Below.heap_setCell _ _ _ _ (by show w.heap.size+1≠X; omega),hV _ (block_lt n2) (by omega)]; exact n2
      ·rw[HF4.out,show 4 * (k+1)=4 * k+4 by omega]
       exact own_kept a2 fun b cs fz hb _=>Below.heap_setCell _ _ _ _ (by show b≠X; omega)
     refine wpAnyH_ready (rs:=[5]) (by kernel_rfl) (by simp) ?_
     refine AllReadyH.cons rfl (fun K1 hK=>?_) AllReadyH.nil
     refine if_wanted (wanted_none rfl) ?_
     simp only [List.getElem_toArray,List.getElem_cons_zero,List.getElem_cons_succ]
     refine step_append_run (.tmp 30) (.tmp 33) 25 rfl v' (.slice (some ⟨gq,0,none⟩) 4 cq) (by simp [Act.eval]) (by simp [Act.eval]) hr ?_
     have HM3:MoS w #[.int .i64 hw,.int .i64 hh,.int .i64 hd,.int .i64 hc',.bool lace,.slice ta tn tc,.slice ca cn cc,.int .i64 rw',.int .i64 rh,.int .i64 rc,.int .i64 rd,.slice sa sn sc,.slice ka kn kc] V3:=by
      obtain⟨n1,⟨Z,n2,n3⟩,n4⟩:=m1
      exact⟨(hV _ (block_lt n1) (by omega)).trans n1,⟨Z,(hV _ (block_lt n2) (by omega)).trans n2,n3⟩,n4.grown a3 (by have:=n4.size; omega) (fun b hb=>by have:=hrow _ hb; omega)⟩
     refine hK.out _ _ HM3 (fun _=>?_)
     simp only [Act.put,List.setIfInBounds_toArray,List.set_cons_zero,List.set_cons_succ]
     clear hK
     refine wpAnyH_take (i:=6) (v:=.pointer (some ⟨X,2,none⟩)) rfl (by kernel_rfl) (by kernel_rfl) (by kernel_rfl) (fun _ _ _ h=>h) (Or.inl ⟨by rfl,?_⟩) HM3 ?_
     ·intro w' _
      go_simp
     simp only [Act.put,List.getElem_toArray,List.getElem_cons_zero,List.getElem_cons_succ,List.setIfInBounds_toArray,List.set_cons_zero,List.set_cons_succ]
     refine wpAnyH_ready (rs:=[7]) (by kernel_rfl) (by simp) ?_
     refine AllReadyH.cons rfl (fun K1 hK=>?_) AllReadyH.nil
     refine if_wanted (wanted_none rfl) ?_
     simp only [List.getElem_toArray,List.getElem_cons_zero,List.getElem_cons_succ]
     go_simp
     refine hK.out _ _ HN.out.1.1 (fun _=>?_)
     clear hK
     refine wpAnyH_done (by kernel_rfl) ?_ _
     clear m1 m2 m3 m4 m5 hr a2 a3 hrow j2 d2 df dl hV HM3 hnews hi0 hz0 hz1 hz2
     go_wp2_with fail
     go_roundw
     case rel=>exact⟨k+1,by omega,by go_num,HN⟩
     case measure=>simp [intOf]; omega
   ·obtain rfl:k=pixN p0:=by omega
    have hpos:1≤hw * hh:=by
     have:=Int.mul_le_mul hw0 hh0 (by omega) (by omega)
     omega
    obtain⟨gl,cl,cur,rfl,q1,q2,q3,q4,q5,q6⟩:∃ gl cl cur,v=.slice (some ⟨gl,0,none⟩) (4 * pixN p0) cl∧X+1≤gl∧wr.heap[gl]?=some (.cells cur 3 (0,0))∧4 * pixN p0≤cl∧cl≤maxLen∧cur.size=cl * 1∧cur.toList.take (4 * pixN p0 * 1)=fints (pixL p0) (4 * pixN p0):=by
     rcases m3.2 with ⟨_,h⟩ | h
     ·omega
     ·exact h
    have dk:decide ((pixN p0:Int) < (pixN p0:Int))=false:=decide_eq_false (by omega)
    obtain⟨⟨z0,z1,z2,z3,y0,y1,y2,y3⟩,yf,yl⟩:=m1.cells
    have HF:Hid (MoS w #[.int .i64 hw,.int .i64 hh,.int .i64 hd,.int .i64 hc',.bool lace,.slice ta tn tc,.slice ca cn cc,.int .i64 rw',.int .i64 rh,.int .i64 rc,.int .i64 rd,.slice sa sn sc,.slice ka kn kc] ((((wr.setCell ⟨w.heap.size+1,0,none⟩ (.int .i64 hw)).setCell ⟨w.heap.size+1,1,none⟩ (.int .i64 hh)).setCell ⟨w.heap.size+1,2,none⟩ (.slice (some ⟨gl,0,none⟩) (4 * pixN p0) cl)).setCell ⟨w.heap.size+1,3,none⟩ (.slice pk kn ck))):=(((m1.set 0 _).set 1 _).set 2 _).set 3 _
    have hoth:∀ b,b≠w.heap.size+1→((((wr.setCell ⟨w.heap.size+1,0,none⟩ (.int .i64 hw)).setCell ⟨w.heap.size+1,1,none⟩ (.int .i64 hh)).setCell ⟨w.heap.size+1,2,none⟩ (.slice (some ⟨gl,0,none⟩) (4 * pixN p0) cl)).setCell ⟨w.heap.size+1,3,none⟩ (.slice pk kn ck)).heap[b]?=wr.heap[b]?:=fun b hb=>by
     rw[Below.heap_setCell _ _ _ _ hb,Below.heap_setCell _ _ _ _ hb,Below.heap_setCell _ _ _ _ hb,Below.heap_setCell _ _ _ _ hb]
    have HSL:Hid (SL ((((wr.setCell ⟨w.heap.size+1,0,none⟩ (.int .i64 hw)).setCell ⟨w.heap.size+1,1,none⟩ (.int .i64 hh)).setCell ⟨w.heap.size+1,2,none⟩ (.slice (some ⟨gl,0,none⟩) (4 * pixN p0) cl)).setCell ⟨w.heap.size+1,3,none⟩ (.slice pk kn ck)) w.heap.size (some ⟨gl,0,none⟩) (4 * pixN p0) cl (pixL p0)∧KSL ((((wr.setCell ⟨w.heap.size+1,0,none⟩ (.int .i64 hw)).setCell ⟨w.heap.size+1,1,none⟩ (.int .i64 hh)).setCell ⟨w.heap.size+1,2,none⟩ (.slice (some ⟨gl,0,none⟩) (4 * pixN p0) cl)).setCell ⟨w.heap.size+1,3,none⟩ (.slice pk kn ck)) w.heap.size pk kn K):=by
     refine⟨.inr ⟨gl,rfl,cl,cur,(0,0),by rw [fints_length],by omega,(hoth _ (by omega)).trans q2,.inl rfl,by rw [fints_length]; exact q3,q4,by simpa using q5,by rw [fints_length]; simpa using q6⟩,hI.out.2.kept fun b cs hb=>hoth b (fun e=>?_)⟩
     obtain⟨_,⟨Z,h2,_⟩,_⟩:=m1
     rw[e,h2] at hb
     cases hb
    clear q1 q2 q3 q4 q5 q6 hoth m1 m2 m3 m4 m5 hpos
    go_wp2_with fail
    refine bodyPost_ret (v:=.tuple #[.agg #[.int .i64 hw,.int .i64 hh,.slice (some ⟨gl,0,none⟩) (4 * pixN p0) cl,.slice pk kn ck],.bool true]) ?_ rfl (HY.out _ _ _ _ _ HSL.out.1 HSL.out.2 HF.out.2.2)
    simp[results,Try.results7,go_sem, *]
end Go.Proofs.Ytkpbfmdnjnohlaa
