/-
  Texts of the proof, put together.
-/
import Derived.Test.YtkpbfmdnjnohlaaGreatRd02
namespace Go.Proofs.YtkpbfmdnjnohlaaGreat
open Go.RowKit Go.Joins HeadMath ChunkMath
def TP (w W:World) (A O:Array Value):Prop:=W.heap[w.heap.size]?=some (.cells A 30 (0,0))∧(∃ Z,W.heap[w.heap.size+1]?=some (.cells Z 37 (0,0))∧Z.size=13)∧W.heap[w.heap.size+1+1]?=some (.cells O 37 (0,0))∧Below w.heap.size w W
theorem TP.called {w W W':World} {A O:Array Value} (h:TP w W A O) (hb:Below W.heap.size W W'):TP w W' A O:=by
 obtain⟨h1,⟨Z,h2,hz⟩,h3,h4⟩:=h
 exact⟨(hb.block _ (block_lt h1)).trans h1,⟨Z,(hb.block _ (block_lt h2)).trans h2,hz⟩,(hb.block _ (block_lt h3)).trans h3,bnext h4 hb⟩
theorem TP.set {w W:World} {A O:Array Value} (h:TP w W A O) (k:Nat) (v:Value):TP w (W.setCell ⟨w.heap.size+1+1,k,none⟩ v) A (O.setIfInBounds k v):=by
 obtain⟨h1,⟨Z,h2,hz⟩,h3,h4⟩:=h
 refine⟨?_,⟨Z,?_,hz⟩,?_,h4.setCell (p:=⟨w.heap.size+1+1,k,none⟩) (by simp; omega) v⟩
 ·rw[Below.heap_setCell _ _ _ _ (by simp; omega)]; exact h1
 ·rw[Below.heap_setCell _ _ _ _ (by simp)]; exact h2
 ·simp[World.setCell,Array.getElem?_modify,h3]
theorem TP.facts {w W:World} {A O:Array Value} (h:TP w W A O):w.heap.size < W.heap.size∧w.heap.size+1 < W.heap.size∧w.heap.size+1+1 < W.heap.size∧(∀ k,W.cell? ⟨w.heap.size,k,none⟩=A[k]?)∧(∀ k,W.cell? ⟨w.heap.size+1+1,k,none⟩=O[k]?)∧(∀ k,k < 13→∃ u,W.cell? ⟨w.heap.size+1,k,none⟩=some u)∧(∀ k,W.frozen? ⟨w.heap.size+1+1,k,none⟩=false)∧(∀ k,W.frozen? ⟨w.heap.size+1,k,none⟩=false):=by
 obtain⟨h1,⟨Z,h2,hz⟩,h3,h4⟩:=h
 refine⟨block_lt h1,block_lt h2,block_lt h3,fun k=>cell_of_block h1 k,fun k=>cell_of_block h3 k,fun k hk=>⟨Z[k]'(by omega),(cell_of_block h2 k).trans (Array.getElem?_eq_getElem (by omega))⟩,fun k=>by simp [World.frozen?,h3],fun k=>by simp [World.frozen?,h2]⟩
theorem toRgbS_g (a:Option Addr) (n c:Nat) (F:Nat→Rgb3) (w:World) (hC:RgbCame w a n F) (hn:n≤1048576):
  Calls Tryz.prog 32 #[.slice a n c] w fun e w'=>∃ g,e=.returned (.slice (some ⟨g,0,none⟩) n n)∧w.heap.size≤g∧g < w'.heap.size∧(∀ B,B≤w.heap.size→RgbOwn w' B g n F)∧Below w.heap.size w w':=
 (toRgbS_any a n c F w hC hn).mono fun _ _ ⟨h,k,b⟩=>⟨_,h,Nat.le_refl _,k.lt,fun _ hb=>⟨hb,k.2⟩,b⟩
theorem toIntS_g (a:Option Addr) (n c:Nat) (f:Nat→Int) (w:World) (hC:Came w a n f) (hn:n≤1048576):
  Calls Tryz.prog 33 #[.slice a n c] w fun e w'=>∃ g,e=.returned (.slice (some ⟨g,0,none⟩) n n)∧w.heap.size≤g∧g < w'.heap.size∧(∀ B,B≤w.heap.size→IOwn w' B g n n f)∧Below w.heap.size w w':=
 (toIntS_any a n c f w hC hn).mono fun _ _ ⟨h,k,b⟩=>⟨_,h,Nat.le_refl _,k.lt,fun _ hb=>k.mono hb,b⟩
theorem toChunkS_g (a:Option Addr) (n c:Nat) (F:Nat→ByteArray×ByteArray) (w:World) (hC:KCame w a n F) (hn:n≤1048576):
  Calls Tryz.prog 35 #[.slice a n c] w fun e w'=>∃ g,e=.returned (.slice (some ⟨g,0,none⟩) n n)∧w.heap.size≤g∧g < w'.heap.size∧(∀ B,B≤w.heap.size→KOwn w' B g n F)∧Below w.heap.size w w':=
 (toChunkS_any a n c F w hC hn).mono fun _ _ ⟨h,k,b⟩=>⟨_,h,Nat.le_refl _,k.lt,fun _ hb=>⟨hb,k.2⟩,b⟩
theorem toRaster_g (x0 x1 x2 x3:Int) (a:Option Addr) (n c:Nat) (f:Nat→Int) (w:World) (hC:Came w a n f) (hn:n≤1048576):
  Calls Tryz.prog 34 #[.agg #[.int .i64 x0,.int .i64 x1,.int .i64 x2,.int .i64 x3,.slice a n c]] w fun e w'=>∃ g,e=.returned (.agg #[.int .i64 x0,.int .i64 x1,.int .i64 x2,.int .i64 x3,.slice (some ⟨g,0,none⟩) n n])∧w.heap.size≤g∧g < w'.heap.size∧(∀ B,B≤w.heap.size→IOwn w' B g n n f)∧Below w.heap.size w w':=
 (toRaster_any x0 x1 x2 x3 a n c f w hC hn).mono fun _ _ ⟨g,h,k,b⟩=>⟨g,h,k.base_le,k.lt,fun _ hb=>k.mono hb,b⟩
def PngCopy (w:World) (p:Pic) (e:Ending) (w':World):Prop:=∃ gt gc gs gk,e=.returned (pngV p (picA p gt gc gs gk))∧PngOwn w' w.heap.size p gt gc gs gk∧Below w.heap.size w w'
set_option maxRecDepth 100000 in
set_option maxHeartbeats 6400000 in
theorem toPng_any (p:Pic) (q:PicA) (w:World) (hP:PngIn w p q) (hZ:PngSz p):
  Calls Tryz.prog 10 #[pngV p q] w (PngCopy w p):=by
 obtain⟨hw,hh,hd,hc',lace,tn,T,cn,C,rw',rh,rc,rd,sn,S,kn,K⟩:=p
 obtain⟨ta,tc,ca,cc,sa,sc,ka,kc⟩:=q
 have HT:Hid (RgbCame w ta tn T):=hid_of hP.t
 have HC:Hid (Came w ca cn C):=hid_of hP.c
 have HS:Hid (Came w sa sn S):=hid_of hP.s
 have HK:Hid (KCame w ka kn K):=hid_of hP.k
 have ht':tn≤1048576:=hZ.t
 have hc2:cn≤1048576:=hZ.c
 have hs':sn≤1048576:=hZ.s
 have hk':kn≤1048576:=hZ.k
 clear hP hZ
 have HTP:Hid (TP w (((w.alloc (.cells #[.int .i64 hw,.int .i64 hh,.int .i64 hd,.int .i64 hc',.bool lace,.slice ta tn tc,.slice ca cn cc,.int .i64 rw',.int .i64 rh,.int .i64 rc,.int .i64 rd,.slice sa sn sc,.slice ka kn kc] 30)).alloc (.cells #[.int .i64 0,.int .i64 0,.int .i64 0,.int .i64 0,.bool false,.slice none 0 0,.slice none 0 0,.int .i64 0,.int .i64 0,.int .i64 0,.int .i64 0,.slice none 0 0,.slice none 0 0] 37)).alloc (.cells #[.int .i64 0,.int .i64 0,.int .i64 0,.int .i64 0,.bool false,.slice none 0 0,.slice none 0 0,.int .i64 0,.int .i64 0,.int .i64 0,.int .i64 0,.slice none 0 0,.slice none 0 0] 37)) #[.int .i64 hw,.int .i64 hh,.int .i64 hd,.int .i64 hc',.bool lace,.slice ta tn tc,.slice ca cn cc,.int .i64 rw',.int .i64 rh,.int .i64 rc,.int .i64 rd,.slice sa sn sc,.slice ka kn kc] #[.int .i64 0,.int .i64 0,.int .i64 0,.int .i64 0,.bool false,.slice none 0 0,.slice none 0 0,.int .i64 0,.int .i64 0,.int .i64 0,.int .i64 0,.slice none 0 0,.slice none 0 0]):=by
  refine⟨?_,⟨#[.int .i64 0,.int .i64 0,.int .i64 0,.int .i64 0,.bool false,.slice none 0 0,.slice none 0 0,.int .i64 0,.int .i64 0,.int .i64 0,.int .i64 0,.slice none 0 0,.slice none 0 0],?_,rfl⟩,?_,bal (bal (bstart _ _) _) _⟩
  rotate_left
  ·show (((w.heap.push _).push _).push _)[w.heap.size+1]?=_
   rw[Array.getElem?_push,if_neg (by simp),Array.getElem?_push,if_pos (by simp)]
  ·show (((w.heap.push _).push _).push _)[w.heap.size+1+1]?=_
   rw[Array.getElem?_push,if_pos (by simp)]
  ·show (((w.heap.push _).push _).push _)[w.heap.size]?=_
   rw[Array.getElem?_push,if_neg (by simp; omega),Array.getElem?_push,if_neg (by simp),Array.getElem?_push,if_pos (by simp)]
 show Calls Tryz.prog 10 #[.agg #[.int .i64 hw,.int .i64 hh,.int .i64 hd,.int .i64 hc',.bool lace,.slice ta tn tc,.slice ca cn cc,.int .i64 rw',.int .i64 rh,.int .i64 rc,.int .i64 rd,.slice sa sn sc,.slice ka kn kc]] w _
 go_enter Tryz.func10,Tryz.ntmps10
 go_wp2_with fail
 refine (toHead_any hw hh hd hc' lace _).mono ?_
 rintro e w1 ⟨rfl,hB⟩
 have H1:=hid_of (HTP.out.called hB)
 clear hB HTP
 obtain⟨l0,l1,l2,cA,cO,cZ,fO,fZ⟩:=H1.out.facts
 have a5:=(cA 5).trans rfl
 have o0:=(cO 0).trans rfl
 have o1:=(cO 1).trans rfl
 have o2:=(cO 2).trans rfl
 have o3:=(cO 3).trans rfl
 have o4:=(cO 4).trans rfl
 clear cA cO cZ fZ
 go_wp2_with fail
 clear l0 l1 l2 fO a5 o0 o1 o2 o3 o4
 have H1':Hid (TP w _ #[.int .i64 hw,.int .i64 hh,.int .i64 hd,.int .i64 hc',.bool lace,.slice ta tn tc,.slice ca cn cc,.int .i64 rw',.int .i64 rh,.int .i64 rc,.int .i64 rd,.slice sa sn sc,.slice ka kn kc] #[.int .i64 hw,.int .i64 hh,.int .i64 hd,.int .i64 hc',.bool lace,.slice none 0 0,.slice none 0 0,.int .i64 0,.int .i64 0,.int .i64 0,.int .i64 0,.slice none 0 0,.slice none 0 0]):=(((((H1.out.set 0 (.int .i64 hw)).set 1 (.int .i64 hh)).set 2 (.int .i64 hd)).set 3 (.int .i64 hc')).set 4 (.bool lace))
 clear H1
 refine (toRgbS_g ta tn tc T _ (HT.out.called H1'.out.2.2.2) ht').mono ?_
 rintro e w2 ⟨gt,rfl,hge,hlt,hO,hB⟩
 have H2:=hid_of (H1'.out.called hB)
 have hz:w.heap.size+1+1 < _:=block_lt H1'.out.2.2.1
 have G1_2:Hid (RgbOwn w2 w.heap.size gt tn T∧w.heap.size+1+1 < gt∧gt < w2.heap.size):=⟨hO _ (by omega),by omega,hlt⟩
 clear hge hlt hO hB hz H1' 
 obtain⟨l0,l1,l2,cA,cO,cZ,fO,fZ⟩:=H2.out.facts
 have a6:=(cA 6).trans rfl
 have o5:=(cO 5).trans rfl
 clear cA cO cZ fZ
 go_wp2_with fail
 clear l0 l1 l2 fO a6 o5
 have H2':Hid (TP w _ #[.int .i64 hw,.int .i64 hh,.int .i64 hd,.int .i64 hc',.bool lace,.slice ta tn tc,.slice ca cn cc,.int .i64 rw',.int .i64 rh,.int .i64 rc,.int .i64 rd,.slice sa sn sc,.slice ka kn kc] #[.int .i64 hw,.int .i64 hh,.int .i64 hd,.int .i64 hc',.bool lace,.slice (some ⟨gt,0,none⟩) tn tn,.slice none 0 0,.int .i64 0,.int .i64 0,.int .i64 0,.int .i64 0,.slice none 0 0,.slice none 0 0]):=(H2.out.set 5 (.slice (some ⟨gt,0,none⟩) tn tn))
 clear H2
 refine (toIntS_g ca cn cc C _ (HC.out.called H2'.out.2.2.2) hc2).mono ?_
 rintro e w3 ⟨gc,rfl,hge,hlt,hO,hB⟩
 have H3:=hid_of (H2'.out.called hB)
 have hz:w.heap.size+1+1 < _:=block_lt H2'.out.2.2.1
 have G2_3:Hid (IOwn w3 w.heap.size gc cn cn C∧w.heap.size+1+1 < gc∧gc < w3.heap.size):=⟨hO _ (by omega),by omega,hlt⟩
 have q1:=G1_2.out.2
 have G1_3:Hid (RgbOwn w3 w.heap.size gt tn T∧w.heap.size+1+1 < gt∧gt < w3.heap.size):=⟨(G1_2.out.1.keep (by repeat' rw [Below.heap_setCell _ _ _ _ (by first | (simp; done) | (simp; omega))])).called hB,by omega,by have:=hB.size; simp at this; omega⟩
 have L2:Hid (gt < gc):=by show _ < _; simp at hge; omega
 clear hge hlt hO hB hz H2' G1_2 q1
 obtain⟨l0,l1,l2,cA,cO,cZ,fO,fZ⟩:=H3.out.facts
 have a7:=(cA 7).trans rfl
 have a8:=(cA 8).trans rfl
 have a9:=(cA 9).trans rfl
 have a10:=(cA 10).trans rfl
 have a11:=(cA 11).trans rfl
 have o6:=(cO 6).trans rfl
 clear cA cO cZ fZ
 go_wp2_with fail
 clear l0 l1 l2 fO a7 a8 a9 a10 a11 o6
 have H3':Hid (TP w _ #[.int .i64 hw,.int .i64 hh,.int .i64 hd,.int .i64 hc',.bool lace,.slice ta tn tc,.slice ca cn cc,.int .i64 rw',.int .i64 rh,.int .i64 rc,.int .i64 rd,.slice sa sn sc,.slice ka kn kc] #[.int .i64 hw,.int .i64 hh,.int .i64 hd,.int .i64 hc',.bool lace,.slice (some ⟨gt,0,none⟩) tn tn,.slice (some ⟨gc,0,none⟩) cn cn,.int .i64 0,.int .i64 0,.int .i64 0,.int .i64 0,.slice none 0 0,.slice none 0 0]):=(H3.out.set 6 (.slice (some ⟨gc,0,none⟩) cn cn))
 clear H3
 refine (toRaster_g rw' rh rc rd sa sn sc S _ (HS.out.called H3'.out.2.2.2) hs').mono ?_
 rintro e w4 ⟨gs,rfl,hge,hlt,hO,hB⟩
 have H4:=hid_of (H3'.out.called hB)
 have hz:w.heap.size+1+1 < _:=block_lt H3'.out.2.2.1
 have G3_4:Hid (IOwn w4 w.heap.size gs sn sn S∧w.heap.size+1+1 < gs∧gs < w4.heap.size):=⟨hO _ (by omega),by omega,hlt⟩
 have q1:=G1_3.out.2
 have G1_4:Hid (RgbOwn w4 w.heap.size gt tn T∧w.heap.size+1+1 < gt∧gt < w4.heap.size):=⟨(G1_3.out.1.keep (by repeat' rw [Below.heap_setCell _ _ _ _ (by first | (simp; done) | (simp; omega))])).called hB,by omega,by have:=hB.size; simp at this; omega⟩
 have q2:=G2_3.out.2
 have G2_4:Hid (IOwn w4 w.heap.size gc cn cn C∧w.heap.size+1+1 < gc∧gc < w4.heap.size):=⟨(G2_3.out.1.keep (by repeat' rw [Below.heap_setCell _ _ _ _ (by first | (simp; done) | (simp; omega))])).called hB,by omega,by have:=hB.size; simp at this; omega⟩
 have L3:Hid (gc < gs):=by show _ < _; simp at hge; omega
 clear hge hlt hO hB hz H3' G1_3 q1 G2_3 q2
 obtain⟨l0,l1,l2,cA,cO,cZ,fO,fZ⟩:=H4.out.facts
 have a12:=(cA 12).trans rfl
 have o7:=(cO 7).trans rfl
 have o8:=(cO 8).trans rfl
 have o9:=(cO 9).trans rfl
 have o10:=(cO 10).trans rfl
 have o11:=(cO 11).trans rfl
 clear cA cO cZ fZ
 go_wp2_with fail
 clear l0 l1 l2 fO a12 o7 o8 o9 o10 o11
 have H4':Hid (TP w _ #[.int .i64 hw,.int .i64 hh,.int .i64 hd,.int .i64 hc',.bool lace,.slice ta tn tc,.slice ca cn cc,.int .i64 rw',.int .i64 rh,.int .i64 rc,.int .i64 rd,.slice sa sn sc,.slice ka kn kc] #[.int .i64 hw,.int .i64 hh,.int .i64 hd,.int .i64 hc',.bool lace,.slice (some ⟨gt,0,none⟩) tn tn,.slice (some ⟨gc,0,none⟩) cn cn,.int .i64 rw',.int .i64 rh,.int .i64 rc,.int .i64 rd,.slice (some ⟨gs,0,none⟩) sn sn,.slice none 0 0]):=(((((H4.out.set 7 (.int .i64 rw')).set 8 (.int .i64 rh)).set 9 (.int .i64 rc)).set 10 (.int .i64 rd)).set 11 (.slice (some ⟨gs,0,none⟩) sn sn))
 clear H4
 refine (toChunkS_g ka kn kc K _ (HK.out.called H4'.out.2.2.2) hk').mono ?_
 rintro e w5 ⟨gk,rfl,hge,hlt,hO,hB⟩
 have H5:=hid_of (H4'.out.called hB)
 have hz:w.heap.size+1+1 < _:=block_lt H4'.out.2.2.1
 have G4_5:Hid (KOwn w5 w.heap.size gk kn K∧w.heap.size+1+1 < gk∧gk < w5.heap.size):=⟨hO _ (by omega),by omega,hlt⟩
 have q1:=G1_4.out.2
 have G1_5:Hid (RgbOwn w5 w.heap.size gt tn T∧w.heap.size+1+1 < gt∧gt < w5.heap.size):=⟨(G1_4.out.1.keep (by repeat' rw [Below.heap_setCell _ _ _ _ (by first | (simp; done) | (simp; omega))])).called hB,by omega,by have:=hB.size; simp at this; omega⟩
 have q2:=G2_4.out.2
 have G2_5:Hid (IOwn w5 w.heap.size gc cn cn C∧w.heap.size+1+1 < gc∧gc < w5.heap.size):=⟨(G2_4.out.1.keep (by repeat' rw [Below.heap_setCell _ _ _ _ (by first | (simp; done) | (simp; omega))])).called hB,by omega,by have:=hB.size; simp at this; omega⟩
 have q3:=G3_4.out.2
 have G3_5:Hid (IOwn w5 w.heap.size gs sn sn S∧w.heap.size+1+1 < gs∧gs < w5.heap.size):=⟨(G3_4.out.1.keep (by repeat' rw [Below.heap_setCell _ _ _ _ (by first | (simp; done) | (simp; omega))])).called hB,by omega,by have:=hB.size; simp at this; omega⟩
 have L4:Hid (gs < gk):=by show _ < _; simp at hge; omega
 clear hge hlt hO hB hz H4' G1_4 q1 G2_4 q2 G3_4 q3
 obtain⟨l0,l1,l2,cA,cO,cZ,fO,fZ⟩:=H5.out.facts
 have o0:=(cO 0).trans rfl
 have o1:=(cO 1).trans rfl
 have o2:=(cO 2).trans rfl
 have o3:=(cO 3).trans rfl
 have o4:=(cO 4).trans rfl
 have o5:=(cO 5).trans rfl
 have o6:=(cO 6).trans rfl
 have o7:=(cO 7).trans rfl
 have o8:=(cO 8).trans rfl
 have o9:=(cO 9).trans rfl
 have o10:=(cO 10).trans rfl
 have o11:=(cO 11).trans rfl
 have o12:=(cO 12).trans rfl
 obtain⟨u0,z0⟩:=cZ 0 (by omega)
 obtain⟨u1,z1⟩:=cZ 1 (by omega)
 obtain⟨u2,z2⟩:=cZ 2 (by omega)
 obtain⟨u3,z3⟩:=cZ 3 (by omega)
 obtain⟨u4,z4⟩:=cZ 4 (by omega)
 obtain⟨u5,z5⟩:=cZ 5 (by omega)
 obtain⟨u6,z6⟩:=cZ 6 (by omega)
 obtain⟨u7,z7⟩:=cZ 7 (by omega)
 obtain⟨u8,z8⟩:=cZ 8 (by omega)
 obtain⟨u9,z9⟩:=cZ 9 (by omega)
 obtain⟨u10,z10⟩:=cZ 10 (by omega)
 obtain⟨u11,z11⟩:=cZ 11 (by omega)
 obtain⟨u12,z12⟩:=cZ 12 (by omega)
 clear cA cO cZ
 go_wp2_with fail
 refine bodyPost_ret (v:=.agg #[.int .i64 hw,.int .i64 hh,.int .i64 hd,.int .i64 hc',.bool lace,.slice (some ⟨gt,0,none⟩) tn tn,.slice (some ⟨gc,0,none⟩) cn cn,.int .i64 rw',.int .i64 rh,.int .i64 rc,.int .i64 rd,.slice (some ⟨gs,0,none⟩) sn sn,.slice (some ⟨gk,0,none⟩) kn kn]) ?_ rfl ⟨gt,gc,gs,gk,rfl,⟨?_,?_,?_,?_,?_⟩,?_⟩
 ·simp[results,Tryz.results10,go_sem, *]
 ·have q:=G1_5.out.2
  refine G1_5.out.1.keep ?_
  repeat' rw [Below.heap_setCell _ _ _ _ (by first | (simp; done) | (simp; omega))]
 ·have q:=G2_5.out.2
  refine G2_5.out.1.keep ?_
  repeat' rw [Below.heap_setCell _ _ _ _ (by first | (simp; done) | (simp; omega))]
 ·have q:=G3_5.out.2
  refine G3_5.out.1.keep ?_
  repeat' rw [Below.heap_setCell _ _ _ _ (by first | (simp; done) | (simp; omega))]
 ·have q:=G4_5.out.2
  refine G4_5.out.1.keep ?_
  repeat' rw [Below.heap_setCell _ _ _ _ (by first | (simp; done) | (simp; omega))]
 ·exact⟨L2.out,L3.out,L4.out⟩
 ·repeat' refine Below.setCell ?_ (by first | (simp; done) | (simp; omega)) _
  exact H5.out.2.2.2
end Go.Proofs.YtkpbfmdnjnohlaaGreat
