/-
  Texts of the proof, put together.
-/
import Derived.Test.YtkpbfmdnjnohlaaMk13
import Derived.Test.YtkpbfmdnjnohlaaMk14
import Derived.Test.YtkpbfmdnjnohlaaMk11
namespace Go.Proofs.Ytkpbfmdnjnohlaa
section
open Go.RowKit Go.Joins HeadMath ChunkMath
def Wrote (gt gc gs gk:Nat) (w w':World):Prop:=w.heap.size≤w'.heap.size∧(∀ (B:Nat) (w0:World),Below B w0 w→B≤w.heap.size→B≤gt→B≤gc→B≤gs→B≤gk→Below B w0 w')∧∀ g,g < w.heap.size→g≠gt→g≠gc→g≠gs→g≠gk→w'.heap[g]?=w.heap[g]?
theorem Wrote.grown {gt gc gs gk r:Nat} {w w1 w2:World} (h:Wrote gt gc gs gk w w1) (hg:w1.grownBy w2 (some r)) (hr:r=gt∨r=gc∨r=gs∨r=gk):Wrote gt gc gs gk w w2:=by
 obtain⟨h1,h2,h3⟩:=h
 refine⟨Nat.le_trans h1 hg.size,fun B w0 hb hB b1 b2 b3 b4=>(h2 B w0 hb hB b1 b2 b3 b4).grown hg (by omega) (fun q hq=>by cases hq; omega),fun g hl n1 n2 n3 n4=>?_⟩
 rw[hg.block g (by omega) (fun e=>by cases e; omega)]
 exact h3 g hl n1 n2 n3 n4
theorem Wrote.start {gt gc gs gk:Nat} (w:World) (o:Obj):Wrote gt gc gs gk w (w.alloc o):=⟨by simp,fun B w0 hb hB _ _ _ _=>hb.trans ((bstart w o).mono hB),fun g hl _ _ _ _=>(bstart w o).block g hl⟩
def PngMarked (k:Nat) (p:Pic) (gt gc gs gk:Nat) (w:World) (e:Ending) (w':World):Prop:=e=.returned (.int .i64 ((k+3 * p.tn+p.cn+p.sn+2 * p.kn:Nat):Int))∧Wrote gt gc gs gk w w'
set_option maxRecDepth 100000 in
set_option maxHeartbeats 3200000 in
theorem markPng_any (p:Pic) (base gt gc gs gk k:Nat) (w:World) (hO:PngOwn w base p gt gc gs gk) (hZ:PngSz p) (hk:k≤1000):
  Calls Try.prog 12 #[pngV p (picA p gt gc gs gk),.int .i64 (k:Int)] w (PngMarked k p gt gc gs gk w):=by
 obtain⟨hw,hh,hd,hc',lace,tn,T,cn,C,rw',rh,rc,rd,sn,S,kn,K⟩:=p
 have HT:Hid (RgbOwn w base gt tn T∧gt < w.heap.size):=⟨hO.t,hO.t.lt⟩
 have HC:Hid (IOwn w base gc cn cn C∧gc < w.heap.size):=⟨hO.c,hO.c.lt⟩
 have HS:Hid (IOwn w base gs sn sn S∧gs < w.heap.size):=⟨hO.s,hO.s.lt⟩
 have HK:Hid (KOwn w base gk kn K∧gk < w.heap.size):=⟨hO.k,hO.k.lt⟩
 have HNE:Hid (gt < gc∧gc < gs∧gs < gk):=hO.ne
 have ht':tn≤1048576:=hZ.t
 have hc2:cn≤1048576:=hZ.c
 have hs':sn≤1048576:=hZ.s
 have hk':kn≤1048576:=hZ.k
 clear hO hZ
 have H0:Hid (Wrote gt gc gs gk w (w.alloc (.cells #[.int .i64 hw,.int .i64 hh,.int .i64 hd,.int .i64 hc',.bool lace,.slice (some ⟨gt,0,none⟩) tn tn,.slice (some ⟨gc,0,none⟩) cn cn,.int .i64 rw',.int .i64 rh,.int .i64 rc,.int .i64 rd,.slice (some ⟨gs,0,none⟩) sn sn,.slice (some ⟨gk,0,none⟩) kn kn] 41))∧(w.alloc (.cells #[.int .i64 hw,.int .i64 hh,.int .i64 hd,.int .i64 hc',.bool lace,.slice (some ⟨gt,0,none⟩) tn tn,.slice (some ⟨gc,0,none⟩) cn cn,.int .i64 rw',.int .i64 rh,.int .i64 rc,.int .i64 rd,.slice (some ⟨gs,0,none⟩) sn sn,.slice (some ⟨gk,0,none⟩) kn kn] 41)).heap[w.heap.size]?=some (.cells #[.int .i64 hw,.int .i64 hh,.int .i64 hd,.int .i64 hc',.bool lace,.slice (some ⟨gt,0,none⟩) tn tn,.slice (some ⟨gc,0,none⟩) cn cn,.int .i64 rw',.int .i64 rh,.int .i64 rc,.int .i64 rd,.slice (some ⟨gs,0,none⟩) sn sn,.slice (some ⟨gk,0,none⟩) kn kn] 41 (0,0))):=⟨Wrote.start w _,heap_alloc_new w _⟩
 show Calls Try.prog 12 #[.agg #[.int .i64 hw,.int .i64 hh,.int .i64 hd,.int .i64 hc',.bool lace,.slice (some ⟨gt,0,none⟩) tn tn,.slice (some ⟨gc,0,none⟩) cn cn,.int .i64 rw',.int .i64 rh,.int .i64 rc,.int .i64 rd,.slice (some ⟨gs,0,none⟩) sn sn,.slice (some ⟨gk,0,none⟩) kn kn],.int .i64 (k:Int)] w _
 go_enter Try.func12,Try.ntmps12
 go_wp2_with fail
 refine (markRgbS_own base gt tn tn T (k:Int) _ (HT.out.1.keep ((bstart w _).block gt HT.out.2)) ht' (by omega) (by omega)).mono ?_
 rintro e w1 ⟨rfl,_,hg⟩
 have H1:Hid (Wrote gt gc gs gk w w1∧w1.heap[w.heap.size]?=some (.cells #[.int .i64 hw,.int .i64 hh,.int .i64 hd,.int .i64 hc',.bool lace,.slice (some ⟨gt,0,none⟩) tn tn,.slice (some ⟨gc,0,none⟩) cn cn,.int .i64 rw',.int .i64 rh,.int .i64 rc,.int .i64 rd,.slice (some ⟨gs,0,none⟩) sn sn,.slice (some ⟨gk,0,none⟩) kn kn] 41 (0,0))∧w1.heap[gc]?=w.heap[gc]?∧w1.heap[gs]?=w.heap[gs]?∧w1.heap[gk]?=w.heap[gk]?):=by
  have q:=HNE.out
  have q1:=HT.out.2
  have q2:=HC.out.2
  have q3:=HS.out.2
  have q4:=HK.out.2
  refine⟨H0.out.1.grown hg (.inl rfl),(hg.block _ (by simp) (fun e=>by cases e; omega)).trans H0.out.2,?_,?_,?_⟩
  ·exact (hg.block _ (by simp; omega) (fun e=>by cases e; omega)).trans ((bstart w _).block _ q2)
  ·exact (hg.block _ (by simp; omega) (fun e=>by cases e; omega)).trans ((bstart w _).block _ q3)
  ·exact (hg.block _ (by simp; omega) (fun e=>by cases e; omega)).trans ((bstart w _).block _ q4)
 clear hg H0
 have a6:=(cell_of_block H1.out.2.1 6).trans rfl
 have l0:=block_lt H1.out.2.1
 go_wp2_with fail
 clear a6 l0
 refine (markIntS_own base gc cn cn C _ _ (HC.out.1.keep H1.out.2.2.1) hc2 (by omega) (by omega)).mono ?_
 rintro e w2 ⟨rfl,_,hg⟩
 have H2:Hid (Wrote gt gc gs gk w w2∧w2.heap[w.heap.size]?=some (.cells #[.int .i64 hw,.int .i64 hh,.int .i64 hd,.int .i64 hc',.bool lace,.slice (some ⟨gt,0,none⟩) tn tn,.slice (some ⟨gc,0,none⟩) cn cn,.int .i64 rw',.int .i64 rh,.int .i64 rc,.int .i64 rd,.slice (some ⟨gs,0,none⟩) sn sn,.slice (some ⟨gk,0,none⟩) kn kn] 41 (0,0))∧w2.heap[gs]?=w.heap[gs]?∧w2.heap[gk]?=w.heap[gk]?):=by
  have q:=HNE.out
  have q2:=HC.out.2
  have q3:=HS.out.2
  have q4:=HK.out.2
  have hz:=H1.out.1.1
  have hl:=block_lt H1.out.2.1
  refine⟨H1.out.1.grown hg (.inr (.inl rfl)),(hg.block _ hl (fun e=>by cases e; omega)).trans H1.out.2.1,?_,?_⟩
  ·exact (hg.block _ (by omega) (fun e=>by cases e; omega)).trans H1.out.2.2.2.1
  ·exact (hg.block _ (by omega) (fun e=>by cases e; omega)).trans H1.out.2.2.2.2
 clear hg H1
 have l0:=block_lt H2.out.2.1
 have a7:=(cell_of_block H2.out.2.1 7).trans rfl
 have a8:=(cell_of_block H2.out.2.1 8).trans rfl
 have a9:=(cell_of_block H2.out.2.1 9).trans rfl
 have a10:=(cell_of_block H2.out.2.1 10).trans rfl
 have a11:=(cell_of_block H2.out.2.1 11).trans rfl
 go_wp2_with fail
 clear l0 a7 a8 a9 a10 a11
 refine (markRaster_own rw' rh rc rd base gs sn sn S _ _ (HS.out.1.keep H2.out.2.2.1) hs' (by omega) (by omega)).mono ?_
 rintro e w3 ⟨rfl,hg⟩
 have H3:Hid (Wrote gt gc gs gk w w3∧w3.heap[w.heap.size]?=some (.cells #[.int .i64 hw,.int .i64 hh,.int .i64 hd,.int .i64 hc',.bool lace,.slice (some ⟨gt,0,none⟩) tn tn,.slice (some ⟨gc,0,none⟩) cn cn,.int .i64 rw',.int .i64 rh,.int .i64 rc,.int .i64 rd,.slice (some ⟨gs,0,none⟩) sn sn,.slice (some ⟨gk,0,none⟩) kn kn] 41 (0,0))∧w3.heap[gk]?=w.heap[gk]?):=by
  have q:=HNE.out
  have q3:=HS.out.2
  have q4:=HK.out.2
  have hz:=H2.out.1.1
  have hl:=block_lt H2.out.2.1
  refine⟨H2.out.1.grown hg (.inr (.inr (.inl rfl))),(hg.block _ hl (fun e=>by cases e; omega)).trans H2.out.2.1,?_⟩
  exact (hg.block _ (by omega) (fun e=>by cases e; omega)).trans H2.out.2.2.2
 clear hg H2
 have a12:=(cell_of_block H3.out.2.1 12).trans rfl
 have l0:=block_lt H3.out.2.1
 have ek:Hid ((k:Int)+3 * (tn:Int)+(cn:Int)+(sn:Int)=((k+3 * tn+cn+sn:Nat):Int)):=by show _=_; omega
 go_wp2_with fail
 clear a12 l0
 rw[ek.out]
 refine (markChunkS_own base gk kn kn K (k+3 * tn+cn+sn) _ (HK.out.1.keep H3.out.2.2) hk' (by omega)).mono ?_
 rintro e w4 ⟨rfl,_,hg⟩
 have H4:=hid_of (H3.out.1.grown hg (.inr (.inr (.inr rfl))))
 clear hg H3
 go_wp2_with fail
 go_ret
 exact⟨rfl,H4.out⟩
end
section
open Go.RowKit Go.Joins OutMath PutMath RastMath HeadMath ChunkMath
def BoxAt (w:World) (B:Nat) (A:Array Value):Prop:=w.heap[B]?=some (.cells A 41 (0,0))
theorem BoxAt.called {w w':World} {B:Nat} {A:Array Value} (h:BoxAt w B A) (hb:Below w.heap.size w w'):BoxAt w' B A:=(hb.block _ (block_lt h)).trans h
def LBox (w W:World) (A:Array Value):Prop:=W.heap[w.heap.size]?=some (.cells A 30 (0,0))∧Below w.heap.size w W
theorem LBox.called {w W W':World} {A:Array Value} (h:LBox w W A) (hb:Below W.heap.size W W'):LBox w W' A:=⟨(hb.block _ (block_lt h.1)).trans h.1,bnext h.2 hb⟩
theorem LBox.drew {w W:World} {A:Array Value} (h:LBox w W A):LBox w W.drew A:=h.called (bdraws (Below.refl _ _) 1)
end
section
open Go.RowKit Go.Joins ChunkMath
structure Mea where
 mw:Int
 mh:Int
 pn:Nat
 P:Nat→Int
 kn:Nat
 K:Nat→Chk
structure MeaA where
 pa:Option Addr
 pc:Nat
 ka:Option Addr
 kc:Nat
def meanV (m:Mea) (q:MeaA):Value:=.agg #[.int .i64 m.mw,.int .i64 m.mh,.slice q.pa m.pn q.pc,.slice q.ka m.kn q.kc]
structure MeanIn (w:World) (m:Mea) (q:MeaA):Prop where
 p:Came w q.pa m.pn m.P
 k:KCame w q.ka m.kn m.K
theorem MeanIn.called {w w':World} {m:Mea} {q:MeaA} (h:MeanIn w m q) (hb:Below w.heap.size w w'):MeanIn w' m q:=⟨h.p.called hb,h.k.called hb⟩
structure MeanSz (m:Mea):Prop where
 p:m.pn≤1048576
 k:m.kn≤1048576
 m:∀ i,i < m.kn→(m.K i).1.size≤1048576∧(m.K i).2.size≤1048576
def LikeI (n m:Nat) (f g:Nat→Int):Prop:=n=m∧∀ i,i < n→f i=g i
def LikePost (p:Prop) (w:World) (e:Ending) (w':World):Prop:=∃ b,e=.returned (.bool b)∧(b=true↔p)∧Below w.heap.size w w'
theorem like_no {p:Prop} {w w':World} (h:¬ p) (hb:Below w.heap.size w w'):LikePost p w (.returned (.bool false)) w':=⟨false,rfl,⟨fun e=>(by cases e),fun k=>absurd k h⟩,hb⟩
theorem like_yes {p:Prop} {w w':World} (h:p) (hb:Below w.heap.size w w'):LikePost p w (.returned (.bool true)) w':=⟨true,rfl,⟨fun _=>h,fun _=>rfl⟩,hb⟩
end
section
open Go.RowKit Go.Joins ChunkMath
set_option maxRecDepth 100000 in
set_option maxHeartbeats 3200000 in
theorem eqMean_same (m:Mea) (q r:MeaA) (w:World) (hP:MeanIn w m q) (hQ:MeanIn w m r) (hZ:MeanSz m):
  Calls Try.prog 10 #[meanV m q,meanV m r] w fun e w'=>e=.returned (.bool true)∧Below w.heap.size w w':=by
 obtain⟨mw,mh,pn,P,kn,K⟩:=m
 obtain⟨pa,pc,ka,kc⟩:=q
 obtain⟨pa2,pc2,ka2,kc2⟩:=r
 have HC:Hid (Came w pa pn P∧Came w pa2 pn P):=⟨hP.p,hQ.p⟩
 have HK:Hid (KCame w ka kn K∧KCame w ka2 kn K):=⟨hP.k,hQ.k⟩
 have hc2:pn≤1048576:=hZ.p
 have hk':kn≤1048576:=hZ.k
 have n0:(mw != mw)=false:=by simp
 have n1:(mh != mh)=false:=by simp
 clear hP hQ hZ
 have H0:Hid (((w.alloc (.cells #[.int .i64 mw,.int .i64 mh,.slice pa pn pc,.slice ka kn kc] 34)).alloc (.cells #[.int .i64 mw,.int .i64 mh,.slice pa2 pn pc2,.slice ka2 kn kc2] 34)).heap[w.heap.size]?=some (.cells #[.int .i64 mw,.int .i64 mh,.slice pa pn pc,.slice ka kn kc] 34 (0,0))∧((w.alloc (.cells #[.int .i64 mw,.int .i64 mh,.slice pa pn pc,.slice ka kn kc] 34)).alloc (.cells #[.int .i64 mw,.int .i64 mh,.slice pa2 pn pc2,.slice ka2 kn kc2] 34)).heap[w.heap.size+1]?=some (.cells #[.int .i64 mw,.int .i64 mh,.slice pa2 pn pc2,.slice ka2 kn kc2] 34 (0,0))∧Below w.heap.size w ((w.alloc (.cells #[.int .i64 mw,.int .i64 mh,.slice pa pn pc,.slice ka kn kc] 34)).alloc (.cells #[.int .i64 mw,.int .i64 mh,.slice pa2 pn pc2,.slice ka2 kn kc2] 34))):=by
  refine⟨?_,?_,bal (bstart _ _) _⟩
  ·show ((w.heap.push _).push _)[w.heap.size]?=_
   rw[Array.getElem?_push,if_neg (by simp),Array.getElem?_push,if_pos (by simp)]
  ·show ((w.heap.push _).push _)[w.heap.size+1]?=_
   rw[Array.getElem?_push,if_pos (by simp)]
 show Calls Try.prog 10 #[.agg #[.int .i64 mw,.int .i64 mh,.slice pa pn pc,.slice ka kn kc],.agg #[.int .i64 mw,.int .i64 mh,.slice pa2 pn pc2,.slice ka2 kn kc2]] w _
 go_enter Try.func10,Try.ntmps10
 go_wp2_with fail
 refine (eqIntS_same pa pa2 pn pc pc2 P _ (HC.out.1.called H0.out.2.2) (HC.out.2.called H0.out.2.2) hc2).mono ?_
 rintro e w1 ⟨rfl,hB⟩
 have H1:Hid (w1.heap[w.heap.size]?=some (.cells #[.int .i64 mw,.int .i64 mh,.slice pa pn pc,.slice ka kn kc] 34 (0,0))∧w1.heap[w.heap.size+1]?=some (.cells #[.int .i64 mw,.int .i64 mh,.slice pa2 pn pc2,.slice ka2 kn kc2] 34 (0,0))∧Below w.heap.size w w1):=⟨(hB.block _ (block_lt H0.out.1)).trans H0.out.1,(hB.block _ (block_lt H0.out.2.1)).trans H0.out.2.1,bnext H0.out.2.2 hB⟩
 clear hB H0
 have l0:=block_lt H1.out.1
 have l1:=block_lt H1.out.2.1
 have a3:=(cell_of_block H1.out.1 3).trans rfl
 have b3:=(cell_of_block H1.out.2.1 3).trans rfl
 go_wp2_with fail
 clear l0 l1 a3 b3
 refine (eqChunkS_same ka ka2 kn kc kc2 K _ (HK.out.1.called H1.out.2.2) (HK.out.2.called H1.out.2.2) hk').mono ?_
 rintro e w2 ⟨rfl,hB⟩
 have H2:=hid_of (bnext H1.out.2.2 hB)
 clear hB H1
 go_wp2_with fail
 go_ret
 exact⟨rfl,H2.out⟩
end
end Go.Proofs.Ytkpbfmdnjnohlaa
