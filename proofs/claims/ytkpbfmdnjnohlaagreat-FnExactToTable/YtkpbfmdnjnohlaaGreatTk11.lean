/-
  Texts of the proof, put together.
-/
import Derived.Test.YtkpbfmdnjnohlaaGreatTk09
import Derived.Test.YtkpbfmdnjnohlaaGreatTk10
namespace Go.Proofs.YtkpbfmdnjnohlaaGreat
section
open Go.RowKit Go.Joins HeadMath ChunkMath
def Wrote (gt gc gs gk:Nat) (w w':World):Prop:=w.heap.size≤w'.heap.size∧(∀ (B:Nat) (w0:World),Below B w0 w→B≤w.heap.size→B≤gt→B≤gc→B≤gs→B≤gk→Below B w0 w')∧∀ g,g < w.heap.size→g≠gt→g≠gc→g≠gs→g≠gk→w'.heap[g]?=w.heap[g]?
theorem Wrote.grown {gt gc gs gk r:Nat} {w w1 w2:World} (h:Wrote gt gc gs gk w w1) (hg:w1.grownBy w2 (some r)) (hr:r=gt∨r=gc∨r=gs∨r=gk):Wrote gt gc gs gk w w2:=by
 obtain⟨h1,h2,h3⟩:=h
 refine⟨Nat.le_trans h1 hg.size,fun B w0 hb hB b1 b2 b3 b4=>(h2 B w0 hb hB b1 b2 b3 b4).grown hg (by omega) (fun q hq=>by cases hq; omega),fun g hl n1 n2 n3 n4=>?_⟩
 rw[hg.block g (by omega) (fun e=>by cases e; omega)]
 exact h3 g hl n1 n2 n3 n4
theorem Wrote.start {gt gc gs gk:Nat} (w:World) (o:Obj):Wrote gt gc gs gk w (w.alloc o):=⟨by simp,fun B w0 hb hB _ _ _ _=>hb.trans ((bstart w o).mono hB),fun g hl _ _ _ _=>(bstart w o).block g hl⟩
def PngMarked (k:Nat) (p:Pic) (gt gc gs gk:Nat) (w:World) (e:Ending) (w':World):Prop:=e=.returned (.int .i64 ((k+3 * p.tn+p.cn+p.sn+2 * p.kn:Nat):Int))∧Wrote gt gc gs gk w w'
set_option maxRecDepth 100000 in
set_option maxHeartbeats 3200000 in
theorem markPng_any (p:Pic) (base gt gc gs gk k:Nat) (w:World) (hO:PngOwn w base p gt gc gs gk) (hZ:PngSz p) (hk:k≤1000):
  Calls Tryz.prog 13 #[pngV p (picA p gt gc gs gk),.int .i64 (k:Int)] w (PngMarked k p gt gc gs gk w):=by
 obtain⟨hw,hh,hd,hc',lace,tn,T,cn,C,rw',rh,rc,rd,sn,S,kn,K⟩:=p
 have HT:Hid (RgbOwn w base gt tn T∧gt < w.heap.size):=⟨hO.t,hO.t.lt⟩
 have HC:Hid (IOwn w base gc cn cn C∧gc < w.heap.size):=⟨hO.c,hO.c.lt⟩
 have HS:Hid (IOwn w base gs sn sn S∧gs < w.heap.size):=⟨hO.s,hO.s.lt⟩
 have HK:Hid (KOwn w base gk kn K∧gk < w.heap.size):=⟨hO.k,hO.k.lt⟩
 have HNE:Hid (gt < gc∧gc < gs∧gs < gk):=hO.ne
 have ht':tn≤1048576:=hZ.t
 have hc2:cn≤1048576:=hZ.c
 have hs':sn≤1048576:=hZ.s
 have hk':kn≤1048576:=hZ.k
 clear hO hZ
 have H0:Hid (Wrote gt gc gs gk w (w.alloc (.cells #[.int .i64 hw,.int .i64 hh,.int .i64 hd,.int .i64 hc',.bool lace,.slice (some ⟨gt,0,none⟩) tn tn,.slice (some ⟨gc,0,none⟩) cn cn,.int .i64 rw',.int .i64 rh,.int .i64 rc,.int .i64 rd,.slice (some ⟨gs,0,none⟩) sn sn,.slice (some ⟨gk,0,none⟩) kn kn] 37))∧(w.alloc (.cells #[.int .i64 hw,.int .i64 hh,.int .i64 hd,.int .i64 hc',.bool lace,.slice (some ⟨gt,0,none⟩) tn tn,.slice (some ⟨gc,0,none⟩) cn cn,.int .i64 rw',.int .i64 rh,.int .i64 rc,.int .i64 rd,.slice (some ⟨gs,0,none⟩) sn sn,.slice (some ⟨gk,0,none⟩) kn kn] 37)).heap[w.heap.size]?=some (.cells #[.int .i64 hw,.int .i64 hh,.int .i64 hd,.int .i64 hc',.bool lace,.slice (some ⟨gt,0,none⟩) tn tn,.slice (some ⟨gc,0,none⟩) cn cn,.int .i64 rw',.int .i64 rh,.int .i64 rc,.int .i64 rd,.slice (some ⟨gs,0,none⟩) sn sn,.slice (some ⟨gk,0,none⟩) kn kn] 37 (0,0))):=⟨Wrote.start w _,heap_alloc_new w _⟩
 show Calls Tryz.prog 13 #[.agg #[.int .i64 hw,.int .i64 hh,.int .i64 hd,.int .i64 hc',.bool lace,.slice (some ⟨gt,0,none⟩) tn tn,.slice (some ⟨gc,0,none⟩) cn cn,.int .i64 rw',.int .i64 rh,.int .i64 rc,.int .i64 rd,.slice (some ⟨gs,0,none⟩) sn sn,.slice (some ⟨gk,0,none⟩) kn kn],.int .i64 (k:Int)] w _
 go_enter Tryz.func13,Tryz.ntmps13
 go_wp2_with fail
 refine (markRgbS_own base gt tn tn T (k:Int) _ (HT.out.1.keep ((bstart w _).block gt HT.out.2)) ht' (by omega) (by omega)).mono ?_
 rintro e w1 ⟨rfl,_,hg⟩
 have H1:Hid (Wrote gt gc gs gk w w1∧w1.heap[w.heap.size]?=some (.cells #[.int .i64 hw,.int .i64 hh,.int .i64 hd,.int .i64 hc',.bool lace,.slice (some ⟨gt,0,none⟩) tn tn,.slice (some ⟨gc,0,none⟩) cn cn,.int .i64 rw',.int .i64 rh,.int .i64 rc,.int .i64 rd,.slice (some ⟨gs,0,none⟩) sn sn,.slice (some ⟨gk,0,none⟩) kn kn] 37 (0,0))∧w1.heap[gc]?=w.heap[gc]?∧w1.heap[gs]?=w.heap[gs]?∧w1.heap[gk]?=w.heap[gk]?):=by
  have q:=HNE.out
  have q1:=HT.out.2
  have q2:=HC.out.2
  have q3:=HS.out.2
  have q4:=HK.out.2
  refine⟨H0.out.1.grown hg (.inl rfl),(hg.block _ (by simp) (fun e=>by cases e; omega)).trans H0.out.2,?_,?_,?_⟩
  ·exact (hg.block _ (by simp; omega) (fun e=>by cases e; omega)).trans ((bstart w _).block _ q2)
  ·exact (hg.block _ (by simp; omega) (fun e=>by cases e; omega)).trans ((bstart w _).block _ q3)
  ·exact (hg.block _ (by simp; omega) (fun e=>by cases e; omega)).trans ((bstart w _).block _ q4)
 clear hg H0
 have a6:=(cell_of_block H1.out.2.1 6).trans rfl
 have l0:=block_lt H1.out.2.1
 go_wp2_with fail
 clear a6 l0
 refine (markIntS_own base gc cn cn C _ _ (HC.out.1.keep H1.out.2.2.1) hc2 (by omega) (by omega)).mono ?_
 rintro e w2 ⟨rfl,_,hg⟩
 have H2:Hid (Wrote gt gc gs gk w w2∧w2.heap[w.heap.size]?=some (.cells #[.int .i64 hw,.int .i64 hh,.int .i64 hd,.int .i64 hc',.bool lace,.slice (some ⟨gt,0,none⟩) tn tn,.slice (some ⟨gc,0,none⟩) cn cn,.int .i64 rw',.int .i64 rh,.int .i64 rc,.int .i64 rd,.slice (some ⟨gs,0,none⟩) sn sn,.slice (some ⟨gk,0,none⟩) kn kn] 37 (0,0))∧w2.heap[gs]?=w.heap[gs]?∧w2.heap[gk]?=w.heap[gk]?):=by
  have q:=HNE.out
  have q2:=HC.out.2
  have q3:=HS.out.2
  have q4:=HK.out.2
  have hz:=H1.out.1.1
  have hl:=block_lt H1.out.2.1
  refine⟨H1.out.1.grown hg (.inr (.inl rfl)),(hg.block _ hl (fun e=>by cases e; omega)).trans H1.out.2.1,?_,?_⟩
  ·exact (hg.block _ (by omega) (fun e=>by cases e; omega)).trans H1.out.2.2.2.1
  ·exact (hg.block _ (by omega) (fun e=>by cases e; omega)).trans H1.out.2.2.2.2
 clear hg H1
 have l0:=block_lt H2.out.2.1
 have a7:=(cell_of_block H2.out.2.1 7).trans rfl
 have a8:=(cell_of_block H2.out.2.1 8).trans rfl
 have a9:=(cell_of_block H2.out.2.1 9).trans rfl
 have a10:=(cell_of_block H2.out.2.1 10).trans rfl
 have a11:=(cell_of_block H2.out.2.1 11).trans rfl
 go_wp2_with fail
 clear l0 a7 a8 a9 a10 a11
 refine (markRaster_own rw' rh rc rd base gs sn sn S _ _ (HS.out.1.keep H2.out.2.2.1) hs' (by omega) (by omega)).mono ?_
 rintro e w3 ⟨rfl,hg⟩
 have H3:Hid (Wrote gt gc gs gk w w3∧w3.heap[w.heap.size]?=some (.cells #[.int .i64 hw,.int .i64 hh,.int .i64 hd,.int .i64 hc',.bool lace,.slice (some ⟨gt,0,none⟩) tn tn,.slice (some ⟨gc,0,none⟩) cn cn,.int .i64 rw',.int .i64 rh,.int .i64 rc,.int .i64 rd,.slice (some ⟨gs,0,none⟩) sn sn,.slice (some ⟨gk,0,none⟩) kn kn] 37 (0,0))∧w3.heap[gk]?=w.heap[gk]?):=by
  have q:=HNE.out
  have q3:=HS.out.2
  have q4:=HK.out.2
  have hz:=H2.out.1.1
  have hl:=block_lt H2.out.2.1
  refine⟨H2.out.1.grown hg (.inr (.inr (.inl rfl))),(hg.block _ hl (fun e=>by cases e; omega)).trans H2.out.2.1,?_⟩
  exact (hg.block _ (by omega) (fun e=>by cases e; omega)).trans H2.out.2.2.2
 clear hg H2
 have a12:=(cell_of_block H3.out.2.1 12).trans rfl
 have l0:=block_lt H3.out.2.1
 have ek:Hid ((k:Int)+3 * (tn:Int)+(cn:Int)+(sn:Int)=((k+3 * tn+cn+sn:Nat):Int)):=by show _=_; omega
 go_wp2_with fail
 clear a12 l0
 rw[ek.out]
 refine (markChunkS_own base gk kn kn K (k+3 * tn+cn+sn) _ (HK.out.1.keep H3.out.2.2) hk' (by omega)).mono ?_
 rintro e w4 ⟨rfl,_,hg⟩
 have H4:=hid_of (H3.out.1.grown hg (.inr (.inr (.inr rfl))))
 clear hg H3
 go_wp2_with fail
 go_ret
 exact⟨rfl,H4.out⟩
end
section
open Go.RowKit Go.Joins OutMath PutMath RastMath HeadMath ChunkMath
def BoxAt (w:World) (B:Nat) (A:Array Value):Prop:=w.heap[B]?=some (.cells A 37 (0,0))
theorem BoxAt.called {w w':World} {B:Nat} {A:Array Value} (h:BoxAt w B A) (hb:Below w.heap.size w w'):BoxAt w' B A:=(hb.block _ (block_lt h)).trans h
def LBox (w W:World) (A:Array Value):Prop:=W.heap[w.heap.size]?=some (.cells A 30 (0,0))∧Below w.heap.size w W
theorem LBox.called {w W W':World} {A:Array Value} (h:LBox w W A) (hb:Below W.heap.size W W'):LBox w W' A:=⟨(hb.block _ (block_lt h.1)).trans h.1,bnext h.2 hb⟩
theorem LBox.drew {w W:World} {A:Array Value} (h:LBox w W A):LBox w W.drew A:=h.called (bdraws (Below.refl _ _) 1)
end
end Go.Proofs.YtkpbfmdnjnohlaaGreat
