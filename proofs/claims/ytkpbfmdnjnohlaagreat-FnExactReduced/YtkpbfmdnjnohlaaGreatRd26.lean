/-
  Texts of the proof, put together.
-/
import Derived.Test.YtkpbfmdnjnohlaaGreatRd16
import Derived.Test.YtkpbfmdnjnohlaaGreatRd23
namespace Go.Proofs.YtkpbfmdnjnohlaaGreat
open Go.RowKit Go.Joins HeadMath ChunkMath
def RT (w:World) (A D:Array Value) (u:World):Prop:=MoP w A u∧u.heap[w.heap.size+1+1]?=some (.cells D 32 (0,0))
theorem RT.called {w u u':World} {A D:Array Value} (h:RT w A D u) (hb:Below u.heap.size u u'):RT w A D u':=⟨h.1.called hb,(hb.block _ (block_lt h.2)).trans h.2⟩
theorem RT.set {w u:World} {A D:Array Value} (h:RT w A D u) (k:Nat) (v:Value):RT w A (D.setIfInBounds k v) (u.setCell ⟨w.heap.size+1+1,k,none⟩ v):=⟨h.1.other _ k v (by omega),by have:=h.2; simp [World.setCell,Array.getElem?_modify,this]⟩
theorem RT.start (w:World) (A Z D:Array Value) (hz:Z.size=13):RT w A D (((w.alloc (.cells A 37)).alloc (.cells Z 37)).alloc (.cells D 32)):=by
 refine⟨(MoP.start w A Z hz).called (bstart _ _),?_⟩
 show (((w.heap.push _).push _).push _)[w.heap.size+1+1]?=_
 rw[Array.getElem?_push,if_pos (by simp)]
def RT2 (w:World) (A D:Array Value) (Y:Nat) (E:Array Value) (u:World):Prop:=RT w A D u∧u.heap[Y]?=some (.cells E 34 (0,0))∧w.heap.size+1+1 < Y
theorem RT2.called {w u u':World} {A D E:Array Value} {Y:Nat} (h:RT2 w A D Y E u) (hb:Below u.heap.size u u'):RT2 w A D Y E u':=⟨h.1.called hb,(hb.block _ (block_lt h.2.1)).trans h.2.1,h.2.2⟩
theorem RT2.set {w u:World} {A D E:Array Value} {Y:Nat} (h:RT2 w A D Y E u) (k:Nat) (v:Value):RT2 w A D Y (E.setIfInBounds k v) (u.setCell ⟨Y,k,none⟩ v):=⟨⟨h.1.1.other _ k v (by have:=h.2.2; omega),by rw [Below.heap_setCell _ _ _ _ (by show w.heap.size+1+1≠Y; have:=h.2.2; omega)]; exact h.1.2⟩,by have:=h.2.1; simp [World.setCell,Array.getElem?_modify,this],h.2.2⟩
theorem RT2.put {w u:World} {A D E:Array Value} {Y:Nat} (h:RT2 w A D Y E u) (k:Nat) (v:Value):RT2 w A D Y E (u.setCell ⟨w.heap.size+1,k,none⟩ v):=⟨⟨h.1.1.put k v,by rw [Below.heap_setCell _ _ _ _ (by show w.heap.size+1+1≠w.heap.size+1; omega)]; exact h.1.2⟩,by rw [Below.heap_setCell _ _ _ _ (by show Y≠w.heap.size+1; have:=h.2.2; omega)]; exact h.2.1,h.2.2⟩
theorem RT2.ksl {w u:World} {A D E:Array Value} {Y n:Nat} {a:Option Addr} {K:Nat→Chk} (h:RT2 w A D Y E u) (hk:KSL u w.heap.size a n K) (k:Nat) (v:Value):KSL (u.setCell ⟨w.heap.size+1,k,none⟩ v) w.heap.size a n K:=by
 obtain⟨Z,h2,_⟩:=h.1.1.2.1
 exact KSL.put (O:=Z) hk h2 k v
def RT3 (w:World) (A D:Array Value) (Y:Nat) (E:Array Value) (a:Option Addr) (n:Nat) (K:Nat→Chk) (u:World):Prop:=RT2 w A D Y E u∧KSL u w.heap.size a n K
theorem RT3.put {w u:World} {A D E:Array Value} {Y n:Nat} {a:Option Addr} {K:Nat→Chk} (h:RT3 w A D Y E a n K u) (k:Nat) (v:Value):RT3 w A D Y E a n K (u.setCell ⟨w.heap.size+1,k,none⟩ v):=⟨h.1.put k v,h.1.ksl h.2 k v⟩
set_option maxRecDepth 100000 in
set_option maxHeartbeats 6400000 in
theorem implRetold (p:Pic) (q:PicA) (col dep:Int) (ya:Option Addr) (yn yc:Nat) (w:World) (hK:KCame w q.ka p.kn p.K) (hn:p.kn≤1000) (hm:∀ i,i < p.kn→(p.K i).1.size≤1048576∧(p.K i).2.size≤1048576):
  Calls Tryz.prog 40 #[pngV p q,.int .i64 col,.int .i64 dep,.slice ya yn yc] w (WithPost w p col dep ya yn yc none 0 0):=by
 have hcp:=fun W (h:KCame W q.ka p.kn p.K)=>copiesOf_any q.ka p.kn q.kc p.K W h hn hm
 have HKC:=hid_of hK
 clear hK hn hm
 obtain⟨hw,hh,hd,hc',lace,tn,T,cn,C,rw',rh,rc,rd,sn,S,kn,K⟩:=p
 obtain⟨ta,tc,ca,cc,sa,sc,ka,kc⟩:=q
 simp only [pngV] at hcp ⊢
 replace HKC:Hid (KCame w ka kn K):=HKC
 have H0:=hid_of (RT.start w #[.int .i64 hw,.int .i64 hh,.int .i64 hd,.int .i64 hc',.bool lace,.slice ta tn tc,.slice ca cn cc,.int .i64 rw',.int .i64 rh,.int .i64 rc,.int .i64 rd,.slice sa sn sc,.slice ka kn kc] #[.int .i64 0,.int .i64 0,.int .i64 0,.int .i64 0,.bool false,.slice none 0 0,.slice none 0 0,.int .i64 0,.int .i64 0,.int .i64 0,.int .i64 0,.slice none 0 0,.slice none 0 0] #[.int .i64 hw,.int .i64 hh,.int .i64 dep,.int .i64 col,.bool lace] rfl)
 go_enter Tryz.func40,Tryz.ntmps40
 go_wp2_with fail
 refine (shape_any hw hh dep col lace _).mono ?_
 rintro e w1 ⟨rfl,hB⟩
 have H1:Hid (RT w #[.int .i64 hw,.int .i64 hh,.int .i64 hd,.int .i64 hc',.bool lace,.slice ta tn tc,.slice ca cn cc,.int .i64 rw',.int .i64 rh,.int .i64 rc,.int .i64 rd,.slice sa sn sc,.slice ka kn kc] #[.int .i64 hw,.int .i64 hh,.int .i64 dep,.int .i64 col,.bool lace] w1):=H0.out.called hB
 clear hB H0
 go_wp2_with fail
 have H2:Hid (RT2 w #[.int .i64 hw,.int .i64 hh,.int .i64 hd,.int .i64 hc',.bool lace,.slice ta tn tc,.slice ca cn cc,.int .i64 rw',.int .i64 rh,.int .i64 rc,.int .i64 rd,.slice sa sn sc,.slice ka kn kc] #[.int .i64 hw,.int .i64 hh,.int .i64 dep,.int .i64 col,.bool lace] w1.heap.size #[.int .i64 hw,.int .i64 hh,.int .i64 col,.int .i64 dep,.slice ya yn yc] (w1.alloc (.cells #[.int .i64 hw,.int .i64 hh,.int .i64 col,.int .i64 dep,.slice ya yn yc] 34))):=⟨H1.out.called (bstart w1 (.cells #[.int .i64 hw,.int .i64 hh,.int .i64 col,.int .i64 dep,.slice ya yn yc] 34)),heap_alloc_new w1 _,block_lt H1.out.2⟩
 generalize w1.alloc (.cells #[.int .i64 hw,.int .i64 hh,.int .i64 col,.int .i64 dep,.slice ya yn yc] 34)=w2 at H2 ⊢
 generalize w1.heap.size=Y at H2 ⊢
 clear H1
 have HS0:RT2 w #[.int .i64 hw,.int .i64 hh,.int .i64 hd,.int .i64 hc',.bool lace,.slice ta tn tc,.slice ca cn cc,.int .i64 rw',.int .i64 rh,.int .i64 rc,.int .i64 rd,.slice sa sn sc,.slice ka kn kc] #[.int .i64 hw,.int .i64 hh,.int .i64 dep,.int .i64 col,.bool lace] Y #[.int .i64 hw,.int .i64 hh,.int .i64 col,.int .i64 dep,.slice ya yn yc] w2.drew:=H2.out.called (bdraws (Below.refl _ _) 1)
 clear H2
 refine wp_region_held (S:=RT2 w #[.int .i64 hw,.int .i64 hh,.int .i64 hd,.int .i64 hc',.bool lace,.slice ta tn tc,.slice ca cn cc,.int .i64 rw',.int .i64 rh,.int .i64 rc,.int .i64 rd,.slice sa sn sc,.slice ka kn kc] #[.int .i64 hw,.int .i64 hh,.int .i64 dep,.int .i64 col,.bool lace] Y #[.int .i64 hw,.int .i64 hh,.int .i64 col,.int .i64 dep,.slice ya yn yc]) (by kernel_rfl) ?_
 show wpAnyH _ _ _ _ _ _ _ _ w2.drew
 generalize w2.drew=u0 at HS0 ⊢
 refine zqt 0 (.agg #[.int .i64 hw,.int .i64 hh,.int .i64 dep,.int .i64 col,.bool lace]) rfl ?_ HS0 ?_
 ·intro w' hS
  obtain⟨b0,b1,b2,b3,b4⟩:=zqf hS.1.2; have bl:=block_lt hS.1.2
  go_simp
 simp only [Act.put,zga,zgb,zsa,zsb,zsc]
 refine zqt 1 (.agg #[.int .i64 hw,.int .i64 hh,.int .i64 col,.int .i64 dep,.slice ya yn yc]) rfl ?_ HS0 ?_
 ·intro w' hS
  obtain⟨b0,b1,b2,b3,b4⟩:=zqf hS.2.1; have bl:=block_lt hS.2.1
  go_simp
 simp only [Act.put,zga,zgb,zgc,zsa,zsb,zsc]
 refine zqt 2 (.pointer (some ⟨w.heap.size,12,none⟩)) rfl ?_ HS0 ?_
 ·intro w' _
  go_simp
 simp only [Act.put,zga,zgb,zgc,zsa,zsb,zsc]
 refine zqt 3 (.slice ka kn kc) rfl ?_ HS0 ?_
 ·intro w' hS
  obtain⟨b0,b1,b2,b3,b4,b5,b6,b7,b8,b9,b10,b11,b12⟩:=zqc hS.1.1.1; have bl:=block_lt hS.1.1.1
  go_simp
 simp only [Act.put,zga,zgb,zgc,zsa,zsb,zsc]
 refine zqr 4 rfl (fun K1 hK=>?_)
 refine if_wanted (wanted_none rfl) ?_
 simp only [zga,zgb,zgc]
 go_simp
 refine (hcp _ (HKC.out.called HS0.1.1.2.2)).mono ?_
 rintro e u2 ⟨pk,ck,rfl,hS2,hB⟩
 have HT:=HS0.called hB
 refine hK.out _ _ HT (fun HS2=>?_)
 have HA3:Hid (KSL u2 w.heap.size pk kn K):=ksl_low2 hS2 HS0.1.1.2.2.size
 clear hK hB HT hS2
 refine zqt 5 (.agg #[.int .i64 hw,.int .i64 hh,.int .i64 dep,.int .i64 col,.bool lace,.slice none 0 0,.slice none 0 0,.int .i64 hw,.int .i64 hh,.int .i64 col,.int .i64 dep,.slice ya yn yc,.slice pk kn ck]) rfl ?_ HS2 ?_
 ·intro w' _
  go_simp
 simp only [Act.put,zga,zgb,zgc,zsa,zsb,zsc]
 obtain⟨⟨z0,z1,z2,z3,z4,z5,z6,z7,z8,z9,z10,z11,z12,y0,y1,y2,y3,y4,y5,y6,y7,y8,y9,y10,y11,y12⟩,yf,yl⟩:=HS2.1.1.cells
 have HF:=hid_of (((((((((((((RT3.put ⟨HS2,HA3.out⟩ 0 (.int .i64 hw)).put 1 (.int .i64 hh)).put 2 (.int .i64 dep)).put 3 (.int .i64 col)).put 4 (.bool lace)).put 5 (.slice none 0 0)).put 6 (.slice none 0 0)).put 7 (.int .i64 hw)).put 8 (.int .i64 hh)).put 9 (.int .i64 col)).put 10 (.int .i64 dep)).put 11 (.slice ya yn yc)).put 12 (.slice pk kn ck))
 refine zqr 6 rfl (fun K1 hK=>?_)
 refine if_wanted (wanted_none rfl) ?_
 simp only [zga,zgb,zgc]
 go_simp
 refine hK.out _ _ HF.out.1 (fun HS3=>?_)
 clear hK
 refine wpAnyH_done (by kernel_rfl) ?_ _
 clear HS3
 go_wp2_with fail
 refine bodyPost_ret (v:=.agg #[.int .i64 hw,.int .i64 hh,.int .i64 dep,.int .i64 col,.bool lace,.slice none 0 0,.slice none 0 0,.int .i64 hw,.int .i64 hh,.int .i64 col,.int .i64 dep,.slice ya yn yc,.slice pk kn ck]) ?_ rfl ⟨pk,ck,rfl,HF.out.2,HF.out.1.1.1.2.2⟩
 simp[results,Tryz.results40,go_sem, *]
end Go.Proofs.YtkpbfmdnjnohlaaGreat
