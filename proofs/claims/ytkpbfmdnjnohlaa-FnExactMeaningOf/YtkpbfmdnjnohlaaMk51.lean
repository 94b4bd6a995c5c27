/-
  Texts of the proof, put together.
-/
import Derived.Test.YtkpbfmdnjnohlaaMk48
import Derived.Test.YtkpbfmdnjnohlaaMk50
import Derived.Test.YtkpbfmdnjnohlaaMk43
namespace Go.Proofs.Ytkpbfmdnjnohlaa
open Go.RowKit Go.Joins HeadMath ChunkMath
def MoS (w:World) (A:Array Value) (u:World):Prop:=u.heap[w.heap.size]?=some (.cells A 41 (0,0))∧(∃ Z,u.heap[w.heap.size+1]?=some (.cells Z 34 (0,0))∧Z.size=4)∧Below w.heap.size w u
theorem MoS.called {w u u':World} {A:Array Value} (h:MoS w A u) (hb:Below u.heap.size u u'):MoS w A u':=by
 obtain⟨h1,⟨Z,h2,hz⟩,h3⟩:=h
 exact⟨(hb.block _ (block_lt h1)).trans h1,⟨Z,(hb.block _ (block_lt h2)).trans h2,hz⟩,bnext h3 hb⟩
theorem MoS.set {w u:World} {A:Array Value} (h:MoS w A u) (k:Nat) (v:Value):MoS w A (u.setCell ⟨w.heap.size+1,k,none⟩ v):=by
 obtain⟨h1,⟨Z,h2,hz⟩,h3⟩:=h
 refine⟨?_,⟨Z.setIfInBounds k v,?_,by simpa using hz⟩,h3.setCell (p:=⟨w.heap.size+1,k,none⟩) (by simp) v⟩
 ·rw[Below.heap_setCell _ _ _ _ (by simp)]; exact h1
 ·simp[World.setCell,Array.getElem?_modify,h2]
theorem MoS.cells {w u:World} {A:Array Value} (h:MoS w A u):(∃ c0 c1 c2 c3,u.cell? ⟨w.heap.size+1,0,none⟩=some c0∧u.cell? ⟨w.heap.size+1,1,none⟩=some c1∧u.cell? ⟨w.heap.size+1,2,none⟩=some c2∧u.cell? ⟨w.heap.size+1,3,none⟩=some c3)∧(∀ k,u.frozen? ⟨w.heap.size+1,k,none⟩=false)∧w.heap.size+1 < u.heap.size:=by
 obtain⟨_,⟨Z,h2,hz⟩,_⟩:=h
 exact⟨⟨Z[0]'(by omega),Z[1]'(by omega),Z[2]'(by omega),Z[3]'(by omega),(cell_of_block h2 0).trans (Array.getElem?_eq_getElem (by omega)),(cell_of_block h2 1).trans (Array.getElem?_eq_getElem (by omega)),(cell_of_block h2 2).trans (Array.getElem?_eq_getElem (by omega)),(cell_of_block h2 3).trans (Array.getElem?_eq_getElem (by omega))⟩,unfrozen_of_block h2,block_lt h2⟩
theorem sl_low {w:World} {base b:Nat} {a:Option Addr} {n c:Nat} {f:Nat→Int} (h:SL w base a n c f) (hb:b≤base):SL w b a n c f:=by
 rcases h with h | ⟨g,e,h⟩
 ·exact .inl h
 ·exact .inr ⟨g,e,h.mono hb⟩
theorem ksl_low {w:World} {base b:Nat} {a:Option Addr} {n:Nat} {F:Nat→Chk} (h:KSL w base a n F) (hb:b≤base):KSL w b a n F:=by
 rcases h with h | ⟨g,e,h1,h2⟩
 ·exact .inl h
 ·exact .inr ⟨g,e,Nat.le_trans hb h1,h2⟩
set_option maxRecDepth 100000 in
set_option maxHeartbeats 4000000 in
theorem implMeaning (p:Pic) (q:PicA) (w:World) (hP:PngIn w p q) (hZ:PngSz p):
  Calls Try.prog 9 #[pngV p q] w (MeaningPost p w):=by
 have hok:=fun W h=>implPngOk p q W h hZ
 have hpx:=fun W h hR=>pixels_any p q W h hZ hR
 have hcp:=fun W (h:KCame W q.ka p.kn p.K) (hn:p.kn≤1000)=>copiesOf_any q.ka p.kn q.kc p.K W h hn hZ.m
 have HK32:Hid (PngR p→p.kn≤1000):=fun h=>by have:=h.2.2.2.2.1; omega
 have HP:=hid_of hP
 have HKC:=hid_of hP.k
 have HNo:Hid (¬ PngR p→∀ W,Below w.heap.size w W→MeaningPost p w (.returned (.tuple #[.agg #[.int .i64 0,.int .i64 0,.slice none 0 0,.slice none 0 0],.bool false])) W):=fun h W b=>.inl ⟨h,rfl,b⟩
 have HYes:Hid (PngR p→∀ W a c a2 c2,SL W w.heap.size a (4 * pixN p) c (pixL p)→KSL W w.heap.size a2 p.kn p.K→Below w.heap.size w W→MeaningPost p w (.returned (.tuple #[.agg #[.int .i64 p.hw,.int .i64 p.hh,.slice a (4 * pixN p) c,.slice a2 p.kn c2],.bool true])) W):=fun h W a c a2 c2 h1 h2 b=>.inr ⟨h,⟨a,c,a2,c2⟩,rfl,⟨h1,h2⟩,b⟩
 clear hP hZ
 obtain⟨p0,hp0⟩:∃ p0,p0=p:=⟨_,rfl⟩
 obtain⟨hw,hh,hd,hc',lace,tn,T,cn,C,rw',rh,rc,rd,sn,S,kn,K⟩:=p
 obtain⟨ta,tc,ca,cc,sa,sc,ka,kc⟩:=q
 simp only [pngV] at hok hpx hcp HYes HK32 ⊢
 replace HKC:Hid (KCame w ka kn K):=HKC
 rw[← hp0] at hok hpx HYes HNo HP HK32 ⊢
 clear hp0
 have H0:Hid (MoS w #[.int .i64 hw,.int .i64 hh,.int .i64 hd,.int .i64 hc',.bool lace,.slice ta tn tc,.slice ca cn cc,.int .i64 rw',.int .i64 rh,.int .i64 rc,.int .i64 rd,.slice sa sn sc,.slice ka kn kc] ((w.alloc (.cells #[.int .i64 hw,.int .i64 hh,.int .i64 hd,.int .i64 hc',.bool lace,.slice ta tn tc,.slice ca cn cc,.int .i64 rw',.int .i64 rh,.int .i64 rc,.int .i64 rd,.slice sa sn sc,.slice ka kn kc] 41)).alloc (.cells #[.int .i64 0,.int .i64 0,.slice none 0 0,.slice none 0 0] 34))):=by
  refine⟨?_,⟨#[.int .i64 0,.int .i64 0,.slice none 0 0,.slice none 0 0],?_,rfl⟩,bal (bstart _ _) _⟩
  ·show ((w.heap.push _).push _)[w.heap.size]?=_
   rw[Array.getElem?_push,if_neg (by simp),Array.getElem?_push,if_pos (by simp)]
  ·show ((w.heap.push _).push _)[w.heap.size+1]?=_
   rw[Array.getElem?_push,if_pos (by simp)]
 go_enter Try.func9,Try.ntmps9
 go_wp2_with fail
 refine (hok _ (HP.out.called H0.out.2.2)).mono ?_
 rintro e w1 ⟨b,rfl,hb,hB⟩
 have H1:=hid_of (H0.out.called hB)
 have HB:=hid_of hb
 clear hB hb H0 hok
 obtain⟨⟨z0,z1,z2,z3,y0,y1,y2,y3⟩,yf,yl⟩:=H1.out.cells
 cases b
 ·have HN:=hid_of (HNo.out (fun h=>by have:=HB.out.mpr h; cases this))
  clear hpx hcp HYes
  go_wp2_with fail
  refine bodyPost_ret (v:=.tuple #[.agg #[.int .i64 0,.int .i64 0,.slice none 0 0,.slice none 0 0],.bool false]) ?_ rfl (HN.out _ ?_)
  ·simp[results,Try.results9,go_sem, *]
  ·first
    | exact ((((H1.out.set 0 _).set 1 _).set 2 _).set 3 _).2.2
    | exact H1.out.2.2
 have hR:=HB.out.mp rfl
 have hpx1:=fun W h=>hpx W h hR
 have hk1:=HK32.out hR
 have HY:=hid_of (HYes.out hR)
 clear hpx HNo HYes y0 y1 y2 y3 yf yl
 go_wp2_with fail
 have HS0:MoS w #[.int .i64 hw,.int .i64 hh,.int .i64 hd,.int .i64 hc',.bool lace,.slice ta tn tc,.slice ca cn cc,.int .i64 rw',.int .i64 rh,.int .i64 rc,.int .i64 rd,.slice sa sn sc,.slice ka kn kc] w1.drew:=H1.out.called (bdraws (Below.refl _ _) 1)
 clear H1
 refine wp_region_held (S:=MoS w #[.int .i64 hw,.int .i64 hh,.int .i64 hd,.int .i64 hc',.bool lace,.slice ta tn tc,.slice ca cn cc,.int .i64 rw',.int .i64 rh,.int .i64 rc,.int .i64 rd,.slice sa sn sc,.slice ka kn kc]) (by kernel_rfl) ?_
 show wpAnyH _ _ _ _ _ _ _ _ w1.drew
 generalize w1.drew=u0 at HS0 ⊢
 refine wpAnyH_take (i:=0) (v:=.pointer (some ⟨w.heap.size,0,none⟩)) rfl (by kernel_rfl) (by kernel_rfl) (by kernel_rfl) (fun _ _ _ h=>h) (Or.inl ⟨by rfl,?_⟩) HS0 ?_
 ·intro w' _
  go_simp
 simp only [Act.put,List.getElem_toArray,List.getElem_cons_zero,List.setIfInBounds_toArray,List.set_cons_zero,List.set_cons_succ]
 refine wpAnyH_take (i:=1) (v:=.pointer (some ⟨w.heap.size,0,none⟩)) rfl (by kernel_rfl) (by kernel_rfl) (by kernel_rfl) (fun _ _ _ h=>h) (Or.inl ⟨by rfl,?_⟩) HS0 ?_
 ·intro w' _
  go_simp
 simp only [Act.put,List.getElem_toArray,List.getElem_cons_zero,List.getElem_cons_succ,List.setIfInBounds_toArray,List.set_cons_zero,List.set_cons_succ]
 refine wpAnyH_take (i:=2) (v:=.int .i64 hw) rfl (by kernel_rfl) (by kernel_rfl) (by kernel_rfl) (fun _ _ _ h=>h) (Or.inl ⟨by rfl,?_⟩) HS0 ?_
 ·intro w' hS
  have b0:=(cell_of_block hS.1 0).trans rfl; have b1:=(cell_of_block hS.1 1).trans rfl; have b2:=(cell_of_block hS.1 2).trans rfl; have b3:=(cell_of_block hS.1 3).trans rfl; have b4:=(cell_of_block hS.1 4).trans rfl; have b5:=(cell_of_block hS.1 5).trans rfl; have b6:=(cell_of_block hS.1 6).trans rfl; have b7:=(cell_of_block hS.1 7).trans rfl; have b8:=(cell_of_block hS.1 8).trans rfl; have b9:=(cell_of_block hS.1 9).trans rfl; have b10:=(cell_of_block hS.1 10).trans rfl; have b11:=(cell_of_block hS.1 11).trans rfl; have b12:=(cell_of_block hS.1 12).trans rfl; have bl:=block_lt hS.1
  go_simp
 simp only [Act.put,List.getElem_toArray,List.getElem_cons_zero,List.getElem_cons_succ,List.setIfInBounds_toArray,List.set_cons_zero,List.set_cons_succ]
 refine wpAnyH_take (i:=3) (v:=.pointer (some ⟨w.heap.size,0,none⟩)) rfl (by kernel_rfl) (by kernel_rfl) (by kernel_rfl) (fun _ _ _ h=>h) (Or.inl ⟨by rfl,?_⟩) HS0 ?_
 ·intro w' _
  go_simp
 simp only [Act.put,List.getElem_toArray,List.getElem_cons_zero,List.getElem_cons_succ,List.setIfInBounds_toArray,List.set_cons_zero,List.set_cons_succ]
 refine wpAnyH_take (i:=4) (v:=.pointer (some ⟨w.heap.size,1,none⟩)) rfl (by kernel_rfl) (by kernel_rfl) (by kernel_rfl) (fun _ _ _ h=>h) (Or.inl ⟨by rfl,?_⟩) HS0 ?_
 ·intro w' _
  go_simp
 simp only [Act.put,List.getElem_toArray,List.getElem_cons_zero,List.getElem_cons_succ,List.setIfInBounds_toArray,List.set_cons_zero,List.set_cons_succ]
 refine wpAnyH_take (i:=5) (v:=.int .i64 hh) rfl (by kernel_rfl) (by kernel_rfl) (by kernel_rfl) (fun _ _ _ h=>h) (Or.inl ⟨by rfl,?_⟩) HS0 ?_
 ·intro w' hS
  have b0:=(cell_of_block hS.1 0).trans rfl; have b1:=(cell_of_block hS.1 1).trans rfl; have b2:=(cell_of_block hS.1 2).trans rfl; have b3:=(cell_of_block hS.1 3).trans rfl; have b4:=(cell_of_block hS.1 4).trans rfl; have b5:=(cell_of_block hS.1 5).trans rfl; have b6:=(cell_of_block hS.1 6).trans rfl; have b7:=(cell_of_block hS.1 7).trans rfl; have b8:=(cell_of_block hS.1 8).trans rfl; have b9:=(cell_of_block hS.1 9).trans rfl; have b10:=(cell_of_block hS.1 10).trans rfl; have b11:=(cell_of_block hS.1 11).trans rfl; have b12:=(cell_of_block hS.1 12).trans rfl; have bl:=block_lt hS.1
  go_simp
 simp only [Act.put,List.getElem_toArray,List.getElem_cons_zero,List.getElem_cons_succ,List.setIfInBounds_toArray,List.set_cons_zero,List.set_cons_succ]
 refine wpAnyH_take (i:=6) (v:=.agg #[.int .i64 hw,.int .i64 hh,.int .i64 hd,.int .i64 hc',.bool lace,.slice ta tn tc,.slice ca cn cc,.int .i64 rw',.int .i64 rh,.int .i64 rc,.int .i64 rd,.slice sa sn sc,.slice ka kn kc]) rfl (by kernel_rfl) (by kernel_rfl) (by kernel_rfl) (fun _ _ _ h=>h) (Or.inl ⟨by rfl,?_⟩) HS0 ?_
 ·intro w' hS
  have b0:=(cell_of_block hS.1 0).trans rfl; have b1:=(cell_of_block hS.1 1).trans rfl; have b2:=(cell_of_block hS.1 2).trans rfl; have b3:=(cell_of_block hS.1 3).trans rfl; have b4:=(cell_of_block hS.1 4).trans rfl; have b5:=(cell_of_block hS.1 5).trans rfl; have b6:=(cell_of_block hS.1 6).trans rfl; have b7:=(cell_of_block hS.1 7).trans rfl; have b8:=(cell_of_block hS.1 8).trans rfl; have b9:=(cell_of_block hS.1 9).trans rfl; have b10:=(cell_of_block hS.1 10).trans rfl; have b11:=(cell_of_block hS.1 11).trans rfl; have b12:=(cell_of_block hS.1 12).trans rfl; have bl:=block_lt hS.1
  go_simp
 simp only [Act.put,List.getElem_toArray,List.getElem_cons_zero,List.getElem_cons_succ,List.setIfInBounds_toArray,List.set_cons_zero,List.set_cons_succ]
 refine wpAnyH_take (i:=8) (v:=.pointer (some ⟨w.heap.size,12,none⟩)) rfl (by kernel_rfl) (by kernel_rfl) (by kernel_rfl) (fun _ _ _ h=>h) (Or.inl ⟨by rfl,?_⟩) HS0 ?_
 ·intro w' _
  go_simp
 simp only [Act.put,List.getElem_toArray,List.getElem_cons_zero,List.getElem_cons_succ,List.setIfInBounds_toArray,List.set_cons_zero,List.set_cons_succ]
 refine wpAnyH_take (i:=9) (v:=.slice ka kn kc) rfl (by kernel_rfl) (by kernel_rfl) (by kernel_rfl) (fun _ _ _ h=>h) (Or.inl ⟨by rfl,?_⟩) HS0 ?_
 ·intro w' hS
  have b0:=(cell_of_block hS.1 0).trans rfl; have b1:=(cell_of_block hS.1 1).trans rfl; have b2:=(cell_of_block hS.1 2).trans rfl; have b3:=(cell_of_block hS.1 3).trans rfl; have b4:=(cell_of_block hS.1 4).trans rfl; have b5:=(cell_of_block hS.1 5).trans rfl; have b6:=(cell_of_block hS.1 6).trans rfl; have b7:=(cell_of_block hS.1 7).trans rfl; have b8:=(cell_of_block hS.1 8).trans rfl; have b9:=(cell_of_block hS.1 9).trans rfl; have b10:=(cell_of_block hS.1 10).trans rfl; have b11:=(cell_of_block hS.1 11).trans rfl; have b12:=(cell_of_block hS.1 12).trans rfl; have bl:=block_lt hS.1
  go_simp
 simp only [Act.put,List.getElem_toArray,List.getElem_cons_zero,List.getElem_cons_succ,List.setIfInBounds_toArray,List.set_cons_zero,List.set_cons_succ]
 refine wpAnyH_ready (rs:=[7]) (by kernel_rfl) (by simp) ?_
 refine AllReadyH.cons rfl (fun K1 hK=>?_) AllReadyH.nil
 refine if_wanted (wanted_none rfl) ?_
 simp only [List.getElem_toArray,List.getElem_cons_zero,List.getElem_cons_succ]
 go_simp
 refine (hpx1 _ (HP.out.called HS0.2.2)).mono ?_
 rintro e u1 ⟨pa,pc,rfl,hS1,hB⟩
 have HT:=HS0.called hB
 refine hK.out _ _ HT (fun HS1=>?_)
 have HA1:Hid (SL u1 w.heap.size pa (4 * pixN p0) pc (pixL p0)):=sl_low hS1 HS0.2.2.size
 clear hK hB HT hS1
 refine wpAnyH_ready (rs:=[10]) (by kernel_rfl) (by simp) ?_
 refine AllReadyH.cons rfl (fun K1 hK=>?_) AllReadyH.nil
 refine if_wanted (wanted_none rfl) ?_
 simp only [List.getElem_toArray,List.getElem_cons_zero,List.getElem_cons_succ]
 go_simp
 refine (hcp _ (HKC.out.called HS1.2.2) hk1).mono ?_
 rintro e u2 ⟨pk,ck,rfl,hS2,hB⟩
 have HT:=HS1.called hB
 refine hK.out _ _ HT (fun HS2=>?_)
 have HA2:=hid_of (HA1.out.called hB)
 have HA3:Hid (KSL u2 w.heap.size pk kn K):=ksl_low hS2 HS1.2.2.size
 clear hK hB HT hS2 HA1
 refine wpAnyH_take (i:=11) (v:=.agg #[.int .i64 hw,.int .i64 hh,.slice pa (4 * pixN p0) pc,.slice pk kn ck]) rfl (by kernel_rfl) (by kernel_rfl) (by kernel_rfl) (fun _ _ _ h=>h) (Or.inl ⟨by rfl,?_⟩) HS2 ?_
 ·intro w' _
  go_simp
 simp only [Act.put,List.getElem_toArray,List.getElem_cons_zero,List.getElem_cons_succ,List.setIfInBounds_toArray,List.set_cons_zero,List.set_cons_succ]
 obtain⟨⟨z0,z1,z2,z3,y0,y1,y2,y3⟩,yf,yl⟩:=HS2.cells
 have HF:Hid (MoS w #[.int .i64 hw,.int .i64 hh,.int .i64 hd,.int .i64 hc',.bool lace,.slice ta tn tc,.slice ca cn cc,.int .i64 rw',.int .i64 rh,.int .i64 rc,.int .i64 rd,.slice sa sn sc,.slice ka kn kc] ((((u2.setCell ⟨w.heap.size+1,0,none⟩ (.int .i64 hw)).setCell ⟨w.heap.size+1,1,none⟩ (.int .i64 hh)).setCell ⟨w.heap.size+1,2,none⟩ (.slice pa (4 * pixN p0) pc)).setCell ⟨w.heap.size+1,3,none⟩ (.slice pk kn ck))):=(((HS2.set 0 _).set 1 _).set 2 _).set 3 _
 have HTY:Hid (∀ (g:Nat) (cs:Array Value) (t:TypeId) (fz:Nat×Nat),¬ t=34→u2.heap[g]?=some (.cells cs t fz)→g≠w.heap.size+1):=fun g cs t fz ht hg e=>by
  obtain⟨_,⟨Z,h2,_⟩,_⟩:=HS2
  rw[e,h2] at hg
  cases hg
  exact ht rfl
 refine wpAnyH_ready (rs:=[12]) (by kernel_rfl) (by simp) ?_
 refine AllReadyH.cons rfl (fun K1 hK=>?_) AllReadyH.nil
 refine if_wanted (wanted_none rfl) ?_
 simp only [List.getElem_toArray,List.getElem_cons_zero,List.getElem_cons_succ]
 go_simp
 refine hK.out _ _ HF.out (fun HS3=>?_)
 clear hK
 refine wpAnyH_take (i:=13) (v:=.bool true) rfl (by kernel_rfl) (by kernel_rfl) (by kernel_rfl) (fun _ _ _ h=>h) (Or.inl ⟨by rfl,?_⟩) HS3 ?_
 ·intro w' _
  go_simp
 simp only [Act.put,List.getElem_toArray,List.getElem_cons_zero,List.getElem_cons_succ,List.setIfInBounds_toArray,List.set_cons_zero,List.set_cons_succ]
 refine wpAnyH_done (by kernel_rfl) ?_ _
 clear HS3
 go_wp2_with fail
 refine bodyPost_ret (v:=.tuple #[.agg #[.int .i64 hw,.int .i64 hh,.slice pa (4 * pixN p0) pc,.slice pk kn ck],.bool true]) ?_ rfl (HY.out _ _ _ _ _ ?_ ?_ HF.out.2.2)
 ·simp[results,Try.results9,go_sem, *]
 ·refine HA2.out.kept fun g cs fz hg=>?_
  have hne:=HTY.out g cs _ fz (by decide) hg
  repeat' rw [Below.heap_setCell _ _ _ _ (by show g≠w.heap.size+1; exact hne)]
 ·refine HA3.out.kept fun g cs hg=>?_
  have hne:=HTY.out g cs _ (0,0) (by decide) hg
  repeat' rw [Below.heap_setCell _ _ _ _ (by show g≠w.heap.size+1; exact hne)]
end Go.Proofs.Ytkpbfmdnjnohlaa
