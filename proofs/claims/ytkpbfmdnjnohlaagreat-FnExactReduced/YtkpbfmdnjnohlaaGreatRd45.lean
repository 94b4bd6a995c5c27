/-
  Texts of the proof, put together.
-/
import Derived.Test.YtkpbfmdnjnohlaaGreatRd15
import Derived.Test.YtkpbfmdnjnohlaaGreatRd44
import Derived.Test.YtkpbfmdnjnohlaaGreatRd05
import Derived.Test.YtkpbfmdnjnohlaaGreatRd18
namespace Go.Proofs.YtkpbfmdnjnohlaaGreat
open Go.RowKit Go.Joins OutMath PutMath RastMath HeadMath ChunkMath
theorem MoP.grownT {w V V':World} {A:Array Value} {v:Value} {S s n:Nat} {t:TypeId} {l:List Value} (h:MoP w A V) (hr:V.ownsRow S t s v n l) (ht:t≠37) (hS:w.heap.size≤S) (hg:V.grownBy V' v.ownBlock):MoP w A V':=by
 obtain⟨q1,⟨Z,q2,qz⟩,q3⟩:=h
 have hne:∀ (b:Nat) (cs:Array Value),V.heap[b]?=some (.cells cs 37 (0,0))→V'.heap[b]?=V.heap[b]?:=fun b cs hb=>hg.block b (block_lt hb) (fun e=>by
  rcases hr.2 with ⟨h,_⟩ | ⟨g1,cap,cur,h,_,q5,_⟩
  ·rw[h] at e; simp [Value.ownBlock] at e
  ·rw[h] at e
   simp[Value.ownBlock] at e
   rw[e,q5] at hb
   cases hb
   exact ht rfl)
 exact⟨(hne _ _ q1).trans q1,⟨Z,(hne _ _ q2).trans q2,qz⟩,q3.grown hg q3.size (fun b hb=>Nat.le_trans hS (hr.lt b hb).1)⟩
theorem rgb_empty (w:World) (S:Nat) (h:S≤w.heap.size):(w.alloc (.cells #[] 74)).ownsRow S 74 3 (.slice (some ⟨w.heap.size,0,none⟩) 0 0) 0 (rgbTcells []):=⟨rfl,.inr ⟨w.heap.size,0,#[],rfl,h,heap_alloc_new w _,Nat.le_refl _,Nat.zero_le _,rfl,rfl⟩⟩
theorem num_apart {w w':World} {S:Nat} {x y:Value} {l:List Int} (h:NumRow w S x l) (ha:∀ b,x.ownBlock=some b→y.ownBlock≠some b) (hg:w.grownBy w' y.ownBlock):NumRow w' S x l:=by
 refine⟨h.1,?_⟩
 rcases h.2 with h | ⟨g,cap,cur,e,h1,h2,h3⟩
 ·exact .inl h
 ·exact .inr ⟨g,cap,cur,e,h1,(hg.block g (block_lt h2) (fun q=>ha g (by rw [e]; rfl) q.symm)).trans h2,h3⟩
theorem row_lt {w:World} {S s n:Nat} {t:TypeId} {x:Value} {l:List Value} (h:w.ownsRow S t s x n l):∀ b,x.ownBlock=some b→b < w.heap.size:=fun b hb=>(h.lt b hb).2
structure TtI (w:World) (A:Array Value) (p:Pic) (tv cv ov:Value) (i:Nat) (u:World):Prop where
 m:MoP w A u
 t:TofI w u (tblV p) tv cv (meaL p i)
 o:NumRow u w.heap.size ov (plcL p i)
 a:∀ b,cv.ownBlock=some b→ov.ownBlock≠some b
 s:∀ j,j < i→plc (pq p) j≤255
theorem TtI.called {w u u':World} {A:Array Value} {p:Pic} {tv cv ov:Value} {i:Nat} (h:TtI w A p tv cv ov i u) (hb:Below u.heap.size u u'):TtI w A p tv cv ov i u':=⟨h.m.called hb,⟨rgb_called h.t.1 hb,h.t.2.1.called hb,bnext h.t.2.2 hb⟩,h.o.called hb,h.a,h.s⟩
theorem TtI.start {w u:World} {A:Array Value} (p:Pic) (h:MoP w A u):TtI w A p (.slice (some ⟨u.heap.size,0,none⟩) 0 0) (.slice (some ⟨u.heap.size+1,0,none⟩) 0 0) (.slice (some ⟨u.heap.size+1+1,0,none⟩) 0 0) 0 (((u.alloc (.cells #[] 74)).alloc (.cells #[] 3)).alloc (.cells #[] 3)):=by
 have hs:=h.2.2.size
 have hb2:=bstart u (.cells #[] 74)
 have hb3:=bstart (u.alloc (.cells #[] 74)) (.cells #[] 3)
 have hb4:=bstart ((u.alloc (.cells #[] 74)).alloc (.cells #[] 3)) (.cells #[] 3)
 have hc:=NumRow.empty (u.alloc (.cells #[] 74)) w.heap.size (by simp; omega)
 have ho:=NumRow.empty ((u.alloc (.cells #[] 74)).alloc (.cells #[] 3)) w.heap.size (by simp; omega)
 simp only [World.size_alloc] at hc ho
 refine⟨((h.called hb2).called hb3).called hb4,⟨rgb_called (rgb_called (rgb_empty u _ hs) hb3) hb4,hc.called hb4,bal (bal (bal h.2.2 _) _) _⟩,ho,fun b hb=>?_,fun j hj=>absurd hj (Nat.not_lt_zero j)⟩
 simp only [Value.ownBlock,Option.some.injEq] at hb
 subst hb
 simp[Value.ownBlock]
theorem tof_cells {w u:World} {V:Nat→Q4} {ta ca:Option Addr} {tc cc L m:Nat} (h:TofI w u V (.slice ta L tc) (.slice ca L cc) L) (hm:m < L):(∃ gt ot,ta=some ⟨gt,ot,none⟩∧gt < u.heap.size∧u.cell? ⟨gt,ot+m * 3,none⟩=some (.int .i64 ((V m).1 / 257))∧u.cell? ⟨gt,ot+m * 3+1,none⟩=some (.int .i64 ((V m).2.1 / 257))∧u.cell? ⟨gt,ot+m * 3+2,none⟩=some (.int .i64 ((V m).2.2.1 / 257)))∧∃ gc oc,ca=some ⟨gc,oc,none⟩∧gc < u.heap.size∧u.cell? ⟨gc,oc+m,none⟩=some (.int .i64 ((V m).2.2.2 / 257)):=by
 refine⟨?_,?_⟩
 ·obtain⟨a',c',e,_,_,_,hc,_⟩:=rgbTcame_of_own h.1 rfl
  obtain⟨rfl,_,_⟩:=Value.slice.inj e
  rw[tbL_length] at hc
  rcases hc with h0 | ⟨g,off,e1,hg,hc⟩
  ·omega
  ·have ht:(tbL V L).getD m (0,0,0)=((V m).1 / 257,(V m).2.1 / 257,(V m).2.2.1 / 257):=by
    rw[List.getD_eq_getElem?_getD,List.getElem?_eq_getElem (by rw [tbL_length]; exact hm)]
    simp[tbL]
   have hx:=hc m hm
   simp only [ht] at hx
   exact⟨g,off,e1,hg,hx⟩
 ·obtain⟨a',c',e,_,_,hc,_⟩:=h.2.1.form
  obtain⟨rfl,_,_⟩:=Value.slice.inj e
  rw[cvL_length] at hc
  rcases hc with h0 | ⟨g,off,e1,hg,hc⟩
  ·omega
  ·have hx:=hc m hm
   simp only [cvL_get V L m hm] at hx
   exact⟨g,off,e1,hg,hx⟩
structure TtR (w:World) (A:Array Value) (p:Pic) (tv cv ov:Value) (i gq X:Nat) (y:Nat→Int) (x0 x1 x2:Int) (u:World):Prop where
 i:TtI w A p tv cv ov i u
 c:∀ k,k < 4→u.cell? ⟨gq,k,none⟩=some (.int .i64 (y k))
 l:gq < u.heap.size
 x:u.heap[X]?=some (.cells #[.int .i64 x0,.int .i64 x1,.int .i64 x2] 74 (0,0))
 n:∀ b,tv.ownBlock=some b→b < gq
theorem TtR.called {w u u':World} {A:Array Value} {p:Pic} {tv cv ov:Value} {i gq X:Nat} {y:Nat→Int} {x0 x1 x2:Int} (h:TtR w A p tv cv ov i gq X y x0 x1 x2 u) (hb:Below u.heap.size u u'):TtR w A p tv cv ov i gq X y x0 x1 x2 u':=⟨h.i.called hb,fun k hk=>(hb.cell (p:=⟨gq,k,none⟩) h.l).trans (h.c k hk),Nat.lt_of_lt_of_le h.l hb.size,(hb.block _ (block_lt h.x)).trans h.x,h.n⟩
structure TtM (w:World) (A:Array Value) (p:Pic) (tv cv ov:Value) (i lt lc gq:Nat) (x3:Int) (u:World):Prop where
 m:MoP w A u
 t:u.ownsRow w.heap.size 74 3 tv (tbL (tblV p) lt).length (rgbTcells (tbL (tblV p) lt))
 c:NumRow u w.heap.size cv (cvL (tblV p) lc)
 o:NumRow u w.heap.size ov (plcL p i)
 a:∀ b,cv.ownBlock=some b→ov.ownBlock≠some b
 k:u.cell? ⟨gq,3,none⟩=some (.int .i64 x3)
 l:gq < u.heap.size
theorem TtM.called {w u u':World} {A:Array Value} {p:Pic} {tv cv ov:Value} {i lt lc gq:Nat} {x3:Int} (h:TtM w A p tv cv ov i lt lc gq x3 u) (hb:Below u.heap.size u u'):TtM w A p tv cv ov i lt lc gq x3 u':=⟨h.m.called hb,rgb_called h.t hb,h.c.called hb,h.o.called hb,h.a,(hb.cell (p:=⟨gq,3,none⟩) h.l).trans h.k,Nat.lt_of_lt_of_le h.l hb.size⟩
theorem TtM.tabled {w u u':World} {A:Array Value} {p:Pic} {tv tv' cv ov:Value} {i lt lc gq:Nat} {x3:Int} {r:Rgb3} (h:TtM w A p tv cv ov i lt lc gq x3 u) (y1:u'.ownsRow w.heap.size 74 3 tv' (tbL (tblV p) lt ++ [r]).length (rgbTcells (tbL (tblV p) lt ++ [r]))) (y2:u.grownBy u' tv.ownBlock) (hn:∀ b,tv.ownBlock=some b→b < gq) (he:tbL (tblV p) (lt+1)=tbL (tblV p) lt ++ [r]):TtM w A p tv' cv ov i (lt+1) lc gq x3 u':=
 ⟨h.m.grownT h.t (by decide) (Nat.le_refl _) y2,by rw [he]; exact y1,row_other h.c h.t (by decide) y2,row_other h.o h.t (by decide) y2,h.a,(World.cell?_of_block (w:=u) (y2.block gq h.l (fun e=>by have:=hn gq e.symm; omega))).trans h.k,Nat.lt_of_lt_of_le h.l y2.size⟩
theorem TtM.covered {w u u':World} {A:Array Value} {p:Pic} {tv cv cv' ov:Value} {i lc gq:Nat} {x3 c:Int} (h:TtM w A p tv cv ov i (lc+1) lc gq x3 u) (y1:NumRow u' w.heap.size cv' (cvL (tblV p) lc ++ [c])) (y2:u.grownBy u' cv.ownBlock) (y3:cv'.ownBlock=cv.ownBlock∨cv'.ownBlock=some u.heap.size) (he:cvL (tblV p) (lc+1)=cvL (tblV p) lc ++ [c]):MoP w A u'∧TofI w u' (tblV p) tv cv' (lc+1)∧NumRow u' w.heap.size ov (plcL p i)∧∀ b,cv'.ownBlock=some b→ov.ownBlock≠some b:=by
 have hm:=h.m.grownT h.c (by decide) (Nat.le_refl _) y2
 refine⟨hm,⟨row_other h.t h.c (by decide) y2,by rw [he]; exact y1,hm.2.2⟩,num_apart h.o (fun b hb hc=>h.a b hc hb) y2,fun b hb hc=>?_⟩
 rcases y3 with e | e
 ·rw[e] at hb
  exact h.a b hb hc
 ·rw[e] at hb
  cases hb
  have:=row_lt h.o _ hc
  omega
theorem TtI.placed {w u u':World} {A:Array Value} {p:Pic} {tv cv ov ov':Value} {i:Nat} (hm:MoP w A u) (ht:TofI w u (tblV p) tv cv (meaL p (i+1))) (ho:NumRow u w.heap.size ov (plcL p i)) (ha:∀ b,cv.ownBlock=some b→ov.ownBlock≠some b) (hs:∀ j,j < i→plc (pq p) j≤255) (h255:plc (pq p) i≤255) (y1:NumRow u' w.heap.size ov' (plcL p i ++ [(plc (pq p) i:Int)])) (y2:u.grownBy u' ov.ownBlock) (y3:ov'.ownBlock=ov.ownBlock∨ov'.ownBlock=some u.heap.size):TtI w A p tv cv ov' (i+1) u':=by
 refine⟨hm.grownT ho (by decide) (Nat.le_refl _) y2,⟨row_other ht.1 ho (by decide) y2,num_apart ht.2.1 ha y2,ht.2.2.grown y2 hm.2.2.size (fun b hb=>(ho.lt b hb).1)⟩,by rw [plcL_succ]; exact y1,fun b hb=>?_,fun j hj=>?_⟩
 ·rcases y3 with e | e
  ·rw[e]; exact ha b hb
  ·rw[e]
   intro q
   cases q
   have:=row_lt ht.2.1 _ hb
   omega
 ·rcases Nat.lt_or_ge j i with h | h
  ·exact hs j h
  ·obtain rfl:j=i:=by omega
   exact h255
set_option maxRecDepth 100000 in
set_option maxHeartbeats 12800000 in
theorem specTbl (p:Pic) (q:PicA) (w:World) (hP:PngIn w p q) (hZ:PngSz p) (hM:TblM p):
  Calls Tryz.prog 17 #[pngV p q] w (LessPost (TblC p) (tblP p) w):=by
 have hmay:=fun W h=>specMayQ p q 2 6 W h hZ
 have hpx:=fun i W h hi=>specPixel_any p q i W h hZ hM.1.1 hi
 have hr:=fun dep ya yn yc xa xn xc W (h:PngIn W p q)=>specWith p q 3 dep ya yn yc xa xn xc W h.k (by have:=(png_fits hM.1.1).2.2.2.2; omega)
 have HNo:Hid (¬ TblC p→∀ W,Below w.heap.size w W→LessPost (TblC p) (tblP p) w (.returned (.tuple #[.agg #[.int .i64 0,.int .i64 0,.int .i64 0,.int .i64 0,.bool false,.slice none 0 0,.slice none 0 0,.int .i64 0,.int .i64 0,.int .i64 0,.int .i64 0,.slice none 0 0,.slice none 0 0],.bool false])) W):=fun h W b=>.inl ⟨h,rfl,b⟩
 have HYes:Hid (TblC p→∀ (W:World) (t s c k:Option Addr) (tt cs cx kx:Nat),PngSL W w.heap.size (tblP p) ⟨t,tt,s,cs,c,cx,k,kx⟩→Below w.heap.size w W→LessPost (TblC p) (tblP p) w (.returned (.tuple #[.agg #[.int .i64 p.hw,.int .i64 p.hh,.int .i64 (tblD (meaN p):Nat),.int .i64 3,.bool p.lace,.slice t (meaN p) tt,.slice s (trimC (cvL (tblV p) (meaN p)) (meaN p)) cs,.int .i64 p.hw,.int .i64 p.hh,.int .i64 3,.int .i64 (tblD (meaN p):Nat),.slice c (pixN p) cx,.slice k p.kn kx],.bool true])) W):=fun h W t s c k tt cs cx kx h1 h6=>.inr ⟨h,_,rfl,h1,h6⟩
 have HMk:Hid (∀ (W:World) (t s c k:Option Addr) (tt cs cx kx:Nat),RgbSL W w.heap.size t (meaN p) (fun j=>((tblV p j).1 / 257,(tblV p j).2.1 / 257,(tblV p j).2.2.1 / 257))→SL W w.heap.size s (trimC (cvL (tblV p) (meaN p)) (meaN p)) cs (fun j=>(tblV p j).2.2.2 / 257)→SL W w.heap.size c (pixN p) cx (fun i=>(plc (pq p) i:Int))→KSL W w.heap.size k p.kn p.K→(trimC (cvL (tblV p) (meaN p)) (meaN p)=0∨pixN p=0∨s≠c)→pixN p≤cx∧cx≤maxLen→PngSL W w.heap.size (tblP p) ⟨t,tt,s,cs,c,cx,k,kx⟩):=fun W t s c k tt cs cx kx h1 h2 h3 h4 h5 h6=>⟨h1,h2,h3,h4,h5,h6⟩
 have HC:Hid (TblC p↔∀ i,i < pixN p→plc (pq p) i≤255):=tblC_iff hM
 have HM:=hid_of hM
 have hN:(pixN p:Int)=p.hw * p.hh:=by
  obtain⟨⟨⟨⟨a1,_⟩,⟨b1,_⟩,_⟩,_⟩,_⟩:=hM.1.1
  exact Int.toNat_of_nonneg (Int.mul_nonneg (by omega) (by omega))
 have hN2:=(png_n hM.1.1).2.2
 have hn1:=meaN_pos hM.1.1
 have hn2:=meaN_le p
 have hdd:p.hd=8:=hM.2.2
 have HMM:Hid (MayR p∧(p.hc=2∨p.hc=6)):=⟨hM.1,hM.2.1⟩
 have HP:=hid_of hP
 clear hP hZ hM
 obtain⟨N,hNN⟩:∃ N,N=pixN p:=⟨_,rfl⟩
 rw[← hNN] at hpx HYes HMk HC hN hN2 hn2
 obtain⟨p0,hp0⟩:∃ p0,p0=p:=⟨_,rfl⟩
 obtain⟨hw,hh,hd,hc',lace,tn,T,cn,C,rw',rh,rc,rd,sn,S,kn,K⟩:=p
 obtain⟨ta,tc,ca,cc,sa,sc,ka,kc⟩:=q
 simp only [pngV] at hmay hpx hr HYes HNo HMM hN ⊢
 replace hdd:hd=8:=hdd
 have HE:Hid (p0.kn=kn∧p0.K=K∧p0.hw=hw∧p0.hh=hh∧p0.lace=lace):=by rw [hp0]; exact⟨rfl,rfl,rfl,rfl,rfl⟩
 have HMQ:Hid (MayR p0∧(p0.hc=2∨p0.hc=6)):=by rw [hp0]; exact HMM.out
 rw[← hp0] at hmay hpx hr HP HYes HNo HMk HC HM hNN hn1 hn2 ⊢
 have HNN:=hid_of hNN
 clear hp0 HMM hNN
 subst hdd
 have H0:Hid (MoP w #[.int .i64 hw,.int .i64 hh,.int .i64 8,.int .i64 hc',.bool lace,.slice ta tn tc,.slice ca cn cc,.int .i64 rw',.int .i64 rh,.int .i64 rc,.int .i64 rd,.slice sa sn sc,.slice ka kn kc] ((w.alloc (.cells #[.int .i64 hw,.int .i64 hh,.int .i64 8,.int .i64 hc',.bool lace,.slice ta tn tc,.slice ca cn cc,.int .i64 rw',.int .i64 rh,.int .i64 rc,.int .i64 rd,.slice sa sn sc,.slice ka kn kc] 37)).alloc (.cells #[.int .i64 0,.int .i64 0,.int .i64 0,.int .i64 0,.bool false,.slice none 0 0,.slice none 0 0,.int .i64 0,.int .i64 0,.int .i64 0,.int .i64 0,.slice none 0 0,.slice none 0 0] 37))):=MoP.start w _ _ rfl
 go_enter Tryz.func17,Tryz.ntmps17
 go_wp2_with fail
 refine (hmay _ (HP.out.called H0.out.2.2)).mono ?_
 rintro e w1 ⟨b,rfl,hb,hB⟩
 have H1:=hid_of (H0.out.called hB)
 obtain rfl:b=true:=hb.mpr HMQ.out
 clear hB hb H0 hmay HMQ
 have lm:=block_lt H1.out.1
 obtain⟨m0,m1,m2,m3,m4,m5,m6,m7,m8,m9,m10,m11,m12⟩:=zqc H1.out.1
 have H2:=hid_of (TtI.start p0 H1.out)
 go_wp2_with fail
 clear H1 lm m0 m1 m2 m3 m4 m5 m6 m7 m8 m9 m10 m11 m12
 have wm:IntKind.i64.wrap (hw * hh)=(N:Int):=by rw [← hN,IntKind.wrap_i64]; omega
 go_loopg [4,5,6,7] (N+1) (fun gk x y v z u=>∃ j:Nat,j≤N∧z=.int .i64 j∧N - j≤gk∧Hid (TtI w #[.int .i64 hw,.int .i64 hh,.int .i64 8,.int .i64 hc',.bool lace,.slice ta tn tc,.slice ca cn cc,.int .i64 rw',.int .i64 rh,.int .i64 rc,.int .i64 rd,.slice sa sn sc,.slice ka kn kc] p0 x y v j u))
 case atStart=>exact⟨0,Nat.zero_le _,rfl,by omega,H2⟩
 case round=>
  clear H2
  obtain⟨j,hj,rfl,hk,hS⟩:=hrel
  have hMo:=hS.out.m
  have lm:=block_lt hMo.1
  obtain⟨m0,m1,m2,m3,m4,m5,m6,m7,m8,m9,m10,m11,m12⟩:=zqc hMo.1
  by_cases hlt:j < N
  ·have dl:decide ((j:Int) < (N:Int))=true:=decide_eq_true (by omega)
   have dl2:(j:Int) < (N:Int):=by omega
   obtain⟨ta0,tc0,e4,_⟩:∃ a c,u4=.slice a (meaL p0 j) c∧True:=by
    obtain⟨a',c',e,_⟩:=rgbTcame_of_own hS.out.t.1 rfl
    rw[tbL_length] at e
    exact⟨a',c',e,trivial⟩
   obtain⟨ca0,cc0,e5,_,_⟩:=hS.out.t.2.1.form
   rw[cvL_length] at e5
   subst e4 e5
   clear hMo
   go_wp2_with fail
   clear lm m0 m1 m2 m3 m4 m5 m6 m7 m8 m9 m10 m11 m12
   refine (hpx j _ (HP.out.called hS.out.m.2.2) hlt).mono ?_
   rintro e w2 ⟨gq,cq,rfl,hq,hql,hB,hge⟩
   have HTV:Hid (∀ b,(Value.slice ta0 (meaL p0 j) tc0).ownBlock=some b→b < gq):=fun b hb=>Nat.lt_of_lt_of_le (row_lt hS.out.t.1 b hb) hge
   have HI:=hid_of (hS.out.called hB)
   clear hB hge hS
   have HE4:Hid (E4 (pq p0 j)):=pq_eight HM.out (by rw [← HNN.out]; exact hlt)
   have HPQ:Hid (pq p0 j=(pixV p0 j 0,pixV p0 j 1,pixV p0 j 2,pixV p0 j 3)):=rfl
   have HYK:Hid (∀ k,k < 4→w2.cell? ⟨gq,k,none⟩=some (.int .i64 (pixV p0 j k))):=hq
   have q0:=hq 0 (by omega)
   have q1:=hq 1 (by omega)
   have q2:=hq 2 (by omega)
   have q3:=hq 3 (by omega)
   have hr0:(0≤pixV p0 j 0∧pixV p0 j 0≤65535)∧(0≤pixV p0 j 1∧pixV p0 j 1≤65535)∧(0≤pixV p0 j 2∧pixV p0 j 2≤65535)∧(0≤pixV p0 j 3∧pixV p0 j 3≤65535):=⟨HE4.out.1.range,HE4.out.2.1.range,HE4.out.2.2.1.range,HE4.out.2.2.2.range⟩
   obtain⟨r0,r1,r2,r3⟩:=hr0
   obtain⟨Y,hY⟩:∃ Y:Nat→Int,Y=pixV p0 j:=⟨_,rfl⟩
   rw[← hY] at HYK HPQ q0 q1 q2 q3 r0 r1 r2 r3
   clear hY hq
   have HY3:Hid (Y 3=Y 3):=rfl
   obtain⟨x0,hx0⟩:∃ x,x=Y 0:=⟨_,rfl⟩
   obtain⟨x1,hx1⟩:∃ x,x=Y 1:=⟨_,rfl⟩
   obtain⟨x2,hx2⟩:∃ x,x=Y 2:=⟨_,rfl⟩
   obtain⟨x3,hx3⟩:∃ x,x=Y 3:=⟨_,rfl⟩
   rw[← hx0] at q0 r0 HPQ
   rw[← hx1] at q1 r1 HPQ
   rw[← hx2] at q2 r2 HPQ
   rw[← hx3] at q3 r3 HPQ
   have HX3:=hid_of hx3
   clear hx0 hx1 hx2 hx3 HY3
   have hL:meaL p0 j≤576:=by
    have h1:=meaL_le (p:=p0) (i:=j) (by rw [← HNN.out]; omega)
    omega
   have d0:IntKind.i64.wrap (x0.tdiv 257)=x0 / 257:=by rw [Int.tdiv_eq_ediv_of_nonneg r0.1,IntKind.wrap_i64]; omega
   have d1:IntKind.i64.wrap (x1.tdiv 257)=x1 / 257:=by rw [Int.tdiv_eq_ediv_of_nonneg r1.1,IntKind.wrap_i64]; omega
   have d2:IntKind.i64.wrap (x2.tdiv 257)=x2 / 257:=by rw [Int.tdiv_eq_ediv_of_nonneg r2.1,IntKind.wrap_i64]; omega
   have d3:IntKind.i64.wrap (x3.tdiv 257)=x3 / 257:=by rw [Int.tdiv_eq_ediv_of_nonneg r3.1,IntKind.wrap_i64]; omega
   go_wp2_with fail
   refine wp_region_held (S:=fun Y=>Below w2.heap.size w2 Y) (by kernel_rfl) ?_
   show wpAnyH _ _ _ _ _ _ _ _ w2.drew
   have HS0:(fun Y=>Below w2.heap.size w2 Y) w2.drew:=bdraws (Below.refl _ _) 1
   generalize w2.drew=u0 at HS0 ⊢
   refine zqt 0 (.slice (some ⟨gq,0,none⟩) 4 cq) rfl ?_ HS0 ?_
   ·intro w' _
    go_simp
   simp only [Act.put,zga,zgb,zsa,zsb,zsc]
   refine zqt 1 (.pointer (some ⟨gq,0,none⟩)) rfl ?_ HS0 ?_
   ·intro w' _
    go_simp
   simp only [Act.put,zga,zgb,zgc,zsa,zsb,zsc]
   refine zqt 2 (.int .i64 x0) rfl ?_ HS0 ?_
   ·intro w' hS
    have c0:=(hS.cell (p:=⟨gq,0,none⟩) hql).trans q0; have ll:=Nat.lt_of_lt_of_le hql hS.size
    go_simp
   simp only [Act.put,zga,zgb,zgc,zsa,zsb,zsc]
   refine zqt 3 (.int .i64 (x0 / 257)) rfl ?_ HS0 ?_
   ·intro w' _
    go_simp
   simp only [Act.put,zga,zgb,zgc,zsa,zsb,zsc]
   refine zqt 4 (.slice (some ⟨gq,0,none⟩) 4 cq) rfl ?_ HS0 ?_
   ·intro w' _
    go_simp
   simp only [Act.put,zga,zgb,zgc,zsa,zsb,zsc]
   refine zqt 5 (.pointer (some ⟨gq,1,none⟩)) rfl ?_ HS0 ?_
   ·intro w' _
    go_simp
   simp only [Act.put,zga,zgb,zgc,zsa,zsb,zsc]
   refine zqt 6 (.int .i64 x1) rfl ?_ HS0 ?_
   ·intro w' hS
    have c0:=(hS.cell (p:=⟨gq,1,none⟩) hql).trans q1; have ll:=Nat.lt_of_lt_of_le hql hS.size
    go_simp
   simp only [Act.put,zga,zgb,zgc,zsa,zsb,zsc]
   refine zqt 7 (.int .i64 (x1 / 257)) rfl ?_ HS0 ?_
   ·intro w' _
    go_simp
   simp only [Act.put,zga,zgb,zgc,zsa,zsb,zsc]
   refine zqt 8 (.slice (some ⟨gq,0,none⟩) 4 cq) rfl ?_ HS0 ?_
   ·intro w' _
    go_simp
   simp only [Act.put,zga,zgb,zgc,zsa,zsb,zsc]
   refine zqt 9 (.pointer (some ⟨gq,2,none⟩)) rfl ?_ HS0 ?_
   ·intro w' _
    go_simp
   simp only [Act.put,zga,zgb,zgc,zsa,zsb,zsc]
   refine zqt 10 (.int .i64 x2) rfl ?_ HS0 ?_
   ·intro w' hS
    have c0:=(hS.cell (p:=⟨gq,2,none⟩) hql).trans q2; have ll:=Nat.lt_of_lt_of_le hql hS.size
    go_simp
   simp only [Act.put,zga,zgb,zgc,zsa,zsb,zsc]
   refine zqt 11 (.int .i64 (x2 / 257)) rfl ?_ HS0 ?_
   ·intro w' _
    go_simp
   simp only [Act.put,zga,zgb,zgc,zsa,zsb,zsc]
   refine zqt 12 (.agg #[.int .i64 (x0 / 257),.int .i64 (x1 / 257),.int .i64 (x2 / 257)]) rfl ?_ HS0 ?_
   ·intro w' _
    go_simp
   simp only [Act.put,zga,zgb,zgc,zsa,zsb,zsc]
   refine zqr 13 rfl (fun K1 hK=>?_)
   refine if_wanted (wanted_none rfl) ?_
   simp only [zga,zgb,zgc]
   go_simp
   refine hK.out _ _ (bal HS0 (.cells #[.int .i64 0,.int .i64 0,.int .i64 0] 74)) (fun HS1=>?_)
   clear hK
   have hblk:(u0.alloc (.cells #[.int .i64 0,.int .i64 0,.int .i64 0] 74)).heap[u0.heap.size]?=some (.cells #[.int .i64 0,.int .i64 0,.int .i64 0] 74 (0,0)):=heap_alloc_new u0 _
   have HZX:Hid (w2.heap.size≤u0.heap.size):=HS0.size
   generalize u0.alloc (.cells #[.int .i64 0,.int .i64 0,.int .i64 0] 74)=u1 at HS1 hblk ⊢
   have z0:=(cell_of_block hblk 0).trans rfl
   have z1:=(cell_of_block hblk 1).trans rfl
   have z2:=(cell_of_block hblk 2).trans rfl
   have zf:∀ k,u1.frozen? ⟨u0.heap.size,k,none⟩=false:=unfrozen_of_block hblk
   have zl:=block_lt hblk
   have hb3:Below w2.heap.size w2 (((u1.setCell ⟨u0.heap.size,0,none⟩ (.int .i64 (x0 / 257))).setCell ⟨u0.heap.size,1,none⟩ (.int .i64 (x1 / 257))).setCell ⟨u0.heap.size,2,none⟩ (.int .i64 (x2 / 257))):=((HS1.setCell (p:=⟨u0.heap.size,0,none⟩) HZX.out _).setCell (p:=⟨u0.heap.size,1,none⟩) HZX.out _).setCell (p:=⟨u0.heap.size,2,none⟩) HZX.out _
   have H3:Hid (TtR w #[.int .i64 hw,.int .i64 hh,.int .i64 8,.int .i64 hc',.bool lace,.slice ta tn tc,.slice ca cn cc,.int .i64 rw',.int .i64 rh,.int .i64 rc,.int .i64 rd,.slice sa sn sc,.slice ka kn kc] p0 (.slice ta0 (meaL p0 j) tc0) (.slice ca0 (meaL p0 j) cc0) u6 j gq u0.heap.size Y (x0 / 257) (x1 / 257) (x2 / 257) (((u1.setCell ⟨u0.heap.size,0,none⟩ (.int .i64 (x0 / 257))).setCell ⟨u0.heap.size,1,none⟩ (.int .i64 (x1 / 257))).setCell ⟨u0.heap.size,2,none⟩ (.int .i64 (x2 / 257)))):=by
    exact⟨HI.out.called hb3,fun k hk=>(hb3.cell (p:=⟨gq,k,none⟩) hql).trans (HYK.out k hk),Nat.lt_of_lt_of_le hql hb3.size,by simp [World.setCell,Array.getElem?_modify,hblk],HTV.out⟩
   refine zqr 14 rfl (fun K1 hK=>?_)
   refine if_wanted (wanted_none rfl) ?_
   simp only [zga,zgb,zgc]
   go_simp
   refine hK.out _ _ hb3 (fun HS2=>?_)
   clear hK
   refine wpAnyH_done (by kernel_rfl) ?_ _
   generalize (((u1.setCell ⟨u0.heap.size,0,none⟩ (.int .i64 (x0 / 257))).setCell ⟨u0.heap.size,1,none⟩ (.int .i64 (x1 / 257))).setCell ⟨u0.heap.size,2,none⟩ (.int .i64 (x2 / 257)))=w3 at H3 ⊢
   generalize u0.heap.size=X at H3 ⊢
   clear HS0 HS1 HS2 hb3 hblk z0 z1 z2 zf zl HZX HI HTV q0 q1 q2 q3 HYK hql r0 r1 r2
   go_wp2_with fail
   go_loopg [10,11] (meaL p0 j+1) (fun gk a k u=>∃ m:Nat,m≤meaL p0 j∧k=.int .i64 m∧a=.int .i64 (atT p0 j m)∧meaL p0 j - m≤gk∧Hid (TtR w #[.int .i64 hw,.int .i64 hh,.int .i64 8,.int .i64 hc',.bool lace,.slice ta tn tc,.slice ca cn cc,.int .i64 rw',.int .i64 rh,.int .i64 rc,.int .i64 rd,.slice sa sn sc,.slice ka kn kc] p0 (.slice ta0 (meaL p0 j) tc0) (.slice ca0 (meaL p0 j) cc0) u6 j gq X Y (x0 / 257) (x1 / 257) (x2 / 257) u))
   case atStart=>exact⟨0,Nat.zero_le _,rfl,rfl,by omega,H3⟩
   case round=>
    clear H3
    obtain⟨m,hm,rfl,rfl,hk2,hR⟩:=hrel
    by_cases hml:m < meaL p0 j
    ·have dm:decide ((m:Int) < (meaL p0 j:Int))=true:=decide_eq_true (by omega)
     have dm2:(m:Int) < (meaL p0 j:Int):=by omega
     have dm3:(0:Int)≤(m:Int):=by omega
     have HAP:Hid ((((tblV p0 m).1 / 257=x0 / 257∧(tblV p0 m).2.1 / 257=x1 / 257∧(tblV p0 m).2.2.1 / 257=x2 / 257)∧(tblV p0 m).2.2.2 / 257=x3 / 257)↔tblV p0 m=pq p0 j):=by
      have h:=e4_apart HE4.out (tblV_e4 HM.out (Nat.lt_of_lt_of_le hml (meaL_le (by rw [← HNN.out]; omega))))
      rw[HPQ.out] at h ⊢
      exact h
     obtain⟨⟨gt,ot,rfl,tcl,t0,t1,t2⟩,gc,oc,rfl,ccl,t3⟩:=tof_cells hR.out.i.t hml
     have k3:=(hR.out.c 3 (by omega))
     rw[← HX3.out] at k3
     have kx:=hR.out.x
     have kl:=hR.out.l
     have HR1:=hid_of hR.out
     have HAS:Hid (atT p0 j (m+1)=if tblV p0 m=pq p0 j then (m:Int) else atT p0 j m):=atT_succ p0 j m
     generalize (tblV p0 m).1 / 257=a0 at HAP t0
     generalize (tblV p0 m).2.1 / 257=a1 at HAP t1
     generalize (tblV p0 m).2.2.1 / 257=a2 at HAP t2
     generalize (tblV p0 m).2.2.2 / 257=a3 at HAP t3
     clear hR
     go_wp2_with fail
     refine wp_region_held (S:=fun Y=>Y=wr.drew) (by kernel_rfl) ?_
     show wpAnyH _ _ _ _ _ _ _ _ wr.drew
     have HR2:=hid_of (HR1.out.called (bdraws (Below.refl _ _) 1))
     replace t0:wr.drew.cell? ⟨gt,ot+m * 3,none⟩=some (.int .i64 a0):=t0
     replace t1:wr.drew.cell? ⟨gt,ot+m * 3+1,none⟩=some (.int .i64 a1):=t1
     replace t2:wr.drew.cell? ⟨gt,ot+m * 3+2,none⟩=some (.int .i64 a2):=t2
     replace t3:wr.drew.cell? ⟨gc,oc+m,none⟩=some (.int .i64 a3):=t3
     replace k3:wr.drew.cell? ⟨gq,3,none⟩=some (.int .i64 x3):=k3
     replace kx:wr.drew.heap[X]?=some (.cells #[.int .i64 (x0 / 257),.int .i64 (x1 / 257),.int .i64 (x2 / 257)] 74 (0,0)):=kx
     replace kl:gq < wr.drew.heap.size:=kl
     replace tcl:gt < wr.drew.heap.size:=tcl
     replace ccl:gc < wr.drew.heap.size:=ccl
     have HSx:(fun Y=>Y=wr.drew) wr.drew:=rfl
     change Hid (TtR w #[.int .i64 hw,.int .i64 hh,.int .i64 8,.int .i64 hc',.bool lace,.slice ta tn tc,.slice ca cn cc,.int .i64 rw',.int .i64 rh,.int .i64 rc,.int .i64 rd,.slice sa sn sc,.slice ka kn kc] p0 (.slice (some ⟨gt,ot,none⟩) (meaL p0 j) tc0) (.slice (some ⟨gc,oc,none⟩) (meaL p0 j) cc0) u6 j gq X Y (x0 / 257) (x1 / 257) (x2 / 257) wr.drew) at HR2
     clear HR1
     generalize wr.drew=u0 at HR2 t0 t1 t2 t3 k3 kx kl tcl ccl HSx ⊢
     have kx0:=(cell_of_block kx 0).trans rfl
     have kx1:=(cell_of_block kx 1).trans rfl
     have kx2:=(cell_of_block kx 2).trans rfl
     have kxl:=block_lt kx
     refine zqt 0 (.slice (some ⟨gt,ot,none⟩) (meaL p0 j) tc0) rfl ?_ HSx ?_
     ·intro w' _
      go_simp
     simp only [Act.put,zga,zgb,zsa,zsb,zsc]
     refine zqt 1 (.int .i64 (m:Int)) rfl ?_ HSx ?_
     ·intro w' _
      go_simp
     simp only [Act.put,zga,zgb,zgc,zsa,zsb,zsc]
     refine zqt 2 (.pointer (some ⟨gt,ot+m * 3,none⟩)) rfl ?_ HSx ?_
     ·intro w' _
      go_simp
     simp only [Act.put,zga,zgb,zgc,zsa,zsb,zsc]
     refine zqt 3 (.agg #[.int .i64 a0,.int .i64 a1,.int .i64 a2]) rfl ?_ HSx ?_
     ·intro w' hS
      subst hS
      go_simp
     simp only [Act.put,zga,zgb,zgc,zsa,zsb,zsc]
     refine zqt 4 (.agg #[.int .i64 (x0 / 257),.int .i64 (x1 / 257),.int .i64 (x2 / 257)]) rfl ?_ HSx ?_
     ·intro w' hS
      subst hS
      go_simp
     simp only [Act.put,zga,zgb,zgc,zsa,zsb,zsc]
     by_cases ht:a0=x0 / 257∧a1=x1 / 257∧a2=x2 / 257
     ·obtain⟨rfl,rfl,rfl⟩:=ht
      refine zqt 5 (.bool true) rfl ?_ HSx ?_
      ·intro w' _
       go_simp
      simp only [Act.put,zga,zgb,zgc,zsa,zsb,zsc]
      refine zqt 6 (.bool true) rfl ?_ HSx ?_
      ·intro w' _
       go_simp
      simp only [Act.put,zga,zgb,zgc,zsa,zsb,zsc]
      refine zqt 7 (.slice (some ⟨gc,oc,none⟩) (meaL p0 j) cc0) rfl ?_ HSx ?_
      ·intro w' _
       go_simp
      simp only [Act.put,zga,zgb,zgc,zsa,zsb,zsc]
      refine zqt 8 (.int .i64 (m:Int)) rfl ?_ HSx ?_
      ·intro w' _
       go_simp
      simp only [Act.put,zga,zgb,zgc,zsa,zsb,zsc]
      refine zqt 9 (.pointer (some ⟨gc,oc+m,none⟩)) rfl ?_ HSx ?_
      ·intro w' _
       go_simp
      simp only [Act.put,zga,zgb,zgc,zsa,zsb,zsc]
      refine zqt 10 (.int .i64 a3) rfl ?_ HSx ?_
      ·intro w' hS
       subst hS
       go_simp
      simp only [Act.put,zga,zgb,zgc,zsa,zsb,zsc]
      refine zqt 11 (.slice (some ⟨gq,0,none⟩) 4 cq) rfl ?_ HSx ?_
      ·intro w' _
       go_simp
      simp only [Act.put,zga,zgb,zgc,zsa,zsb,zsc]
      refine zqt 12 (.pointer (some ⟨gq,3,none⟩)) rfl ?_ HSx ?_
      ·intro w' _
       go_simp
      simp only [Act.put,zga,zgb,zgc,zsa,zsb,zsc]
      refine zqt 13 (.int .i64 x3) rfl ?_ HSx ?_
      ·intro w' hS
       subst hS
       go_simp
      simp only [Act.put,zga,zgb,zgc,zsa,zsb,zsc]
      refine zqt 14 (.int .i64 (x3 / 257)) rfl ?_ HSx ?_
      ·intro w' _
       go_simp
      simp only [Act.put,zga,zgb,zgc,zsa,zsb,zsc]
      by_cases h3:a3=x3 / 257
      ·have e3:(a3 == x3 / 257)=true:=by simpa using h3
       refine zqt 15 (.bool true) rfl ?_ HSx ?_
       ·intro w' _
        go_simp
       simp only [Act.put,zga,zgb,zgc,zsa,zsb,zsc]
       refine zqt 16 (.bool true) rfl ?_ HSx ?_
       ·intro w' _
        go_simp
       simp only [Act.put,zga,zgb,zgc,zsa,zsb,zsc]
       have HAT:Hid (atT p0 j (m+1)=(m:Int)):=by
        show _=_
        rw[HAS.out,if_pos (HAP.out.mp ⟨⟨rfl,rfl,rfl⟩,h3⟩)]
       clear h3 e3 HAS
       refine wpAnyH_done (by kernel_rfl) ?_ _
       clear HSx t0 t1 t2 t3 k3 kx kx0 kx1 kx2 kxl kl tcl ccl HAP
       go_wp2_with fail
       go_roundg (meaL p0 j - (m+1))
       case measure=>omega
       case rel=>exact⟨m+1,by omega,by go_num,by rw [HAT.out],Nat.le_refl _,HR2⟩
      ·have e3:(a3 == x3 / 257)=false:=by simpa using h3
       refine zqt 15 (.bool false) rfl ?_ HSx ?_
       ·intro w' _
        go_simp
       simp only [Act.put,zga,zgb,zgc,zsa,zsb,zsc]
       refine zqt 16 (.bool false) rfl ?_ HSx ?_
       ·intro w' _
        go_simp
       simp only [Act.put,zga,zgb,zgc,zsa,zsb,zsc]
       have HAT:Hid (atT p0 j (m+1)=atT p0 j m):=by
        show _=_
        rw[HAS.out,if_neg (fun e=>h3 (HAP.out.mpr e).2)]
       clear h3 e3 HAS
       refine wpAnyH_done (by kernel_rfl) ?_ _
       clear HSx t0 t1 t2 t3 k3 kx kx0 kx1 kx2 kxl kl tcl ccl HAP
       go_wp2_with fail
       go_roundg (meaL p0 j - (m+1))
       case measure=>omega
       case rel=>exact⟨m+1,by omega,by go_num,by rw [HAT.out],Nat.le_refl _,HR2⟩
     ·refine zqt 5 (.bool false) rfl ?_ HSx ?_
      ·intro w' _
       go_simp; first | done | exact fun e1 e2 e3=>ht ⟨e1,e2,e3⟩
      simp only [Act.put,zga,zgb,zgc,zsa,zsb,zsc]
      refine zqt 6 (.bool false) rfl ?_ HSx ?_
      ·intro w' _
       go_simp
      simp only [Act.put,zga,zgb,zgc,zsa,zsb,zsc]
      refine zqu 7 rfl HSx ?_
      simp only [Act.put,zga,zgb,zgc,zsa,zsb,zsc]
      refine zqu 8 rfl HSx ?_
      simp only [Act.put,zga,zgb,zgc,zsa,zsb,zsc]
      refine zqu 9 rfl HSx ?_
      simp only [Act.put,zga,zgb,zgc,zsa,zsb,zsc]
      refine zqu 10 rfl HSx ?_
      simp only [Act.put,zga,zgb,zgc,zsa,zsb,zsc]
      refine zqu 11 rfl HSx ?_
      simp only [Act.put,zga,zgb,zgc,zsa,zsb,zsc]
      refine zqu 12 rfl HSx ?_
      simp only [Act.put,zga,zgb,zgc,zsa,zsb,zsc]
      refine zqu 13 rfl HSx ?_
      simp only [Act.put,zga,zgb,zgc,zsa,zsb,zsc]
      refine zqu 14 rfl HSx ?_
      simp only [Act.put,zga,zgb,zgc,zsa,zsb,zsc]
      refine zqu 15 rfl HSx ?_
      simp only [Act.put,zga,zgb,zgc,zsa,zsb,zsc]
      refine zqt 16 (.bool false) rfl ?_ HSx ?_
      ·intro w' _
       go_simp
      simp only [Act.put,zga,zgb,zgc,zsa,zsb,zsc]
      have HAT:Hid (atT p0 j (m+1)=atT p0 j m):=by
       show _=_
       rw[HAS.out,if_neg (fun e=>ht (HAP.out.mpr e).1)]
      clear ht HAS
      refine wpAnyH_done (by kernel_rfl) ?_ _
      clear HSx t0 t1 t2 t3 k3 kx kx0 kx1 kx2 kxl kl tcl ccl HAP
      go_wp2_with fail
      go_roundg (meaL p0 j - (m+1))
      case measure=>omega
      case rel=>exact⟨m+1,by omega,by go_num,by rw [HAT.out],Nat.le_refl _,HR2⟩
    ·obtain rfl:m=meaL p0 j:=by omega
     have dm:decide ((meaL p0 j:Int) < (meaL p0 j:Int))=false:=decide_eq_false (by omega)
     have hAT:=atT_len (p:=p0) (i:=j) (by rw [← HNN.out]; exact hlt)
     by_cases hin:pq p0 j∈ddL (pq p0) j
     ·rw[if_pos hin] at hAT
      have HL1:=hid_of (meaL_old hin)
      rw[hAT]
      clear hAT hin
      have n0:¬ (plc (pq p0) j:Int) < 0:=by omega
      by_cases h255:plc (pq p0) j≤255
      ·have n1:¬ (255:Int) < (plc (pq p0) j:Int):=by omega
       have n2:¬ 255 < plc (pq p0) j:=by omega
       have HI1:=hid_of (hR.out.i.called (bstart wr (.cells #[.int .i64 (plc (pq p0) j:Int)] 3)))
       have HSZ:Hid (w.heap.size≤wr.heap.size):=hR.out.i.m.2.2.size
       clear hR
       go_wp2_with (at_builtin; refine nums_append1 (S:=w.heap.size) (xs:=plcL p0 j) rfl _ _ rfl rfl HI1.out.o wr.heap.size 1 (plc (pq p0) j:Int) rfl ((cell_of_block (heap_alloc_new wr (.cells #[.int .i64 (plc (pq p0) j:Int)] 3)) 0).trans rfl) (by rw [plcL_length]; omega) (by have:=HSZ.out; simp; omega) ?_)
       intro v1 w4 y1 y2 y3
       have HS1:Hid (TtI w #[.int .i64 hw,.int .i64 hh,.int .i64 8,.int .i64 hc',.bool lace,.slice ta tn tc,.slice ca cn cc,.int .i64 rw',.int .i64 rh,.int .i64 rc,.int .i64 rd,.slice sa sn sc,.slice ka kn kc] p0 (.slice ta0 (meaL p0 j) tc0) (.slice ca0 (meaL p0 j) cc0) v1 (j+1) w4):=TtI.placed HI1.out.m (by rw [HL1.out]; exact HI1.out.t) HI1.out.o HI1.out.a HI1.out.s h255 y1 y2 (by simpa using y3)
       clear y1 y2 y3 HI1
       go_wp2_with fail
       go_roundg (N - (j+1))
       case measure=>omega
       case rel=>exact⟨j+1,by omega,by go_num,Nat.le_refl _,HS1⟩
      ·have n1:(255:Int) < (plc (pq p0) j:Int):=by omega
       have n2:255 < plc (pq p0) j:=by omega
       obtain⟨⟨z0,z1,z2,z3,z4,z5,z6,z7,z8,z9,z10,z11,z12,y0,y1,y2,y3,y4,y5,y6,y7,y8,y9,y10,y11,y12⟩,yf,yl⟩:=hR.out.i.m.cells
       have HN:=hid_of (HNo.out fun h=>h255 (HC.out.mp h j hlt))
       clear HYes HMk hr hpx
       go_wp2_with fail
       refine bodyPost_ret (v:=.tuple #[.agg #[.int .i64 0,.int .i64 0,.int .i64 0,.int .i64 0,.bool false,.slice none 0 0,.slice none 0 0,.int .i64 0,.int .i64 0,.int .i64 0,.int .i64 0,.slice none 0 0,.slice none 0 0],.bool false]) ?_ rfl (HN.out _ ?_)
       ·simp[results,Tryz.results17,go_sem, *]
       ·exact hR.out.i.m.stored _ _ _ _ _ _ _ _ _ _ _ _ _ 
     ·rw[if_neg hin] at hAT
      obtain⟨hl1,hl2,hl3⟩:=meaL_new hin (by rw [← HNN.out]; exact hlt)
      rw[HPQ.out] at hl2
      have HL1:=hid_of hl1
      have HL3:=hid_of hl3
      have HET:Hid (tbL (tblV p0) (meaL p0 j+1)=tbL (tblV p0) (meaL p0 j) ++ [(x0 / 257,x1 / 257,x2 / 257)]):=by
       show _=_
       rw[tbL_succ,hl2]
      have HEC:Hid (cvL (tblV p0) (meaL p0 j+1)=cvL (tblV p0) (meaL p0 j) ++ [x3 / 257]):=by
       show _=_
       rw[cvL_succ,hl2]
      rw[hAT]
      clear hAT hin hl1 hl2 hl3
      have HM0:Hid (TtM w #[.int .i64 hw,.int .i64 hh,.int .i64 8,.int .i64 hc',.bool lace,.slice ta tn tc,.slice ca cn cc,.int .i64 rw',.int .i64 rh,.int .i64 rc,.int .i64 rd,.slice sa sn sc,.slice ka kn kc] p0 (.slice ta0 (meaL p0 j) tc0) (.slice ca0 (meaL p0 j) cc0) u6 j (meaL p0 j) (meaL p0 j) gq x3 wr):=⟨hR.out.i.m,hR.out.i.t.1,hR.out.i.t.2.1,hR.out.i.o,hR.out.i.a,by rw [HX3.out]; exact hR.out.c 3 (by omega),hR.out.l⟩
      have HNB:=hid_of hR.out.n
      have HSJ:=hid_of hR.out.i.s
      have kx:=hR.out.x
      have kx0:=(cell_of_block kx 0).trans rfl
      have kx1:=(cell_of_block kx 1).trans rfl
      have kx2:=(cell_of_block kx 2).trans rfl
      have kxl:=block_lt kx
      have HM1:=hid_of (HM0.out.called (bstart wr (.cells #[.int .i64 (x0 / 257),.int .i64 (x1 / 257),.int .i64 (x2 / 257)] 74)))
      have HSZ:Hid (w.heap.size≤wr.heap.size):=HM0.out.m.2.2.size
      clear hR HM0 kx
      go_wp2_with (at_builtin; refine rgbs_append_at (S:=w.heap.size) (xs:=tbL (tblV p0) (meaL p0 j)) (ys:=[(x0 / 257,x1 / 257,x2 / 257)]) rfl _ _ rfl rfl HM1.out.t ⟨wr.heap.size,0,none⟩ 1 1 rfl rfl (rgbNews_tk _ _ _ _ wr.heap.size rfl) (by rw [tbL_length]; simp; omega) (by have:=HSZ.out; simp; omega) ?_)
      intro v1 w4 y1 y2 _
      have HM2:=hid_of (HM1.out.tabled (by rw [List.length_append]; exact y1) y2 HNB.out HET.out)
      clear y1 y2 HM1 HNB HET kx0 kx1 kx2 kxl
      have k3:=HM2.out.k
      have kl:=HM2.out.l
      have HM3:=hid_of (HM2.out.called (bstart w4 (.cells #[.int .i64 (x3 / 257)] 3)))
      have HSZ2:Hid (w.heap.size≤w4.heap.size):=HM2.out.m.2.2.size
      clear HM2
      go_wp2_with (at_builtin; refine nums_append1 (S:=w.heap.size) (xs:=cvL (tblV p0) (meaL p0 j)) rfl _ _ rfl rfl HM3.out.c w4.heap.size 1 (x3 / 257) rfl ((cell_of_block (heap_alloc_new w4 (.cells #[.int .i64 (x3 / 257)] 3)) 0).trans rfl) (by rw [cvL_length]; omega) (by have:=HSZ2.out; simp; omega) ?_)
      intro v2 w5 y1 y2 y3
      have HM4:=hid_of (HM3.out.covered y1 y2 (by simpa using y3) HEC.out)
      clear y1 y2 y3 HM3 HEC k3 kl
      by_cases h255:meaL p0 j≤255
      ·have n1:¬ (255:Int) < (meaL p0 j:Int):=by omega
       have n2:¬ 255 < meaL p0 j:=by omega
       have HM5:=hid_of (HM4.out.1.called (bstart w5 (.cells #[.int .i64 (meaL p0 j:Int)] 3)))
       have HT5:Hid (TofI w (w5.alloc (.cells #[.int .i64 (meaL p0 j:Int)] 3)) (tblV p0) v1 v2 (meaL p0 j+1)):=⟨rgb_called HM4.out.2.1.1 (bstart _ _),HM4.out.2.1.2.1.called (bstart _ _),bal HM4.out.2.1.2.2 _⟩
       have HO5:=hid_of (HM4.out.2.2.1.called (bstart w5 (.cells #[.int .i64 (meaL p0 j:Int)] 3)))
       have HA5:=hid_of HM4.out.2.2.2
       have HSZ3:Hid (w.heap.size≤w5.heap.size):=HM4.out.1.2.2.size
       clear HM4
       go_wp2_with (at_builtin; refine nums_append1 (S:=w.heap.size) (xs:=plcL p0 j) rfl _ _ rfl rfl HO5.out w5.heap.size 1 (meaL p0 j:Int) rfl ((cell_of_block (heap_alloc_new w5 (.cells #[.int .i64 (meaL p0 j:Int)] 3)) 0).trans rfl) (by rw [plcL_length]; omega) (by have:=HSZ3.out; simp; omega) ?_)
       intro v3 w6 y1 y2 y3
       rw[← HL3.out] at y1
       have HS1:Hid (TtI w #[.int .i64 hw,.int .i64 hh,.int .i64 8,.int .i64 hc',.bool lace,.slice ta tn tc,.slice ca cn cc,.int .i64 rw',.int .i64 rh,.int .i64 rc,.int .i64 rd,.slice sa sn sc,.slice ka kn kc] p0 v1 v2 v3 (j+1) w6):=TtI.placed HM5.out (by rw [HL1.out]; exact HT5.out) HO5.out HA5.out HSJ.out (by rw [HL3.out]; exact h255) y1 y2 (by simpa using y3)
       clear y1 y2 y3 HM5 HT5 HO5 HA5
       go_wp2_with fail
       go_roundg (N - (j+1))
       case measure=>omega
       case rel=>exact⟨j+1,by omega,by go_num,Nat.le_refl _,HS1⟩
      ·have n1:(255:Int) < (meaL p0 j:Int):=by omega
       have n2:255 < meaL p0 j:=by omega
       obtain⟨⟨z0,z1,z2,z3,z4,z5,z6,z7,z8,z9,z10,z11,z12,y0,y1,y2,y3,y4,y5,y6,y7,y8,y9,y10,y11,y12⟩,yf,yl⟩:=HM4.out.1.cells
       have HN:=hid_of (HNo.out fun h=>h255 (by rw [← HL3.out]; exact HC.out.mp h j hlt))
       clear HYes HMk hr hpx
       go_wp2_with fail
       refine bodyPost_ret (v:=.tuple #[.agg #[.int .i64 0,.int .i64 0,.int .i64 0,.int .i64 0,.bool false,.slice none 0 0,.slice none 0 0,.int .i64 0,.int .i64 0,.int .i64 0,.int .i64 0,.slice none 0 0,.slice none 0 0],.bool false]) ?_ rfl (HN.out _ ?_)
       ·simp[results,Tryz.results17,go_sem, *]
       ·exact HM4.out.1.stored _ _ _ _ _ _ _ _ _ _ _ _ _ 
  ·obtain rfl:j=N:=by omega
   have dl:decide ((j:Int) < (j:Int))=false:=decide_eq_false (by omega)
   have hC:TblC p0:=HC.out.mpr fun i hi=>hS.out.s i hi
   have HY:=hid_of (HYes.out hC)
   have hbig:meaN p0≤256:=hC.2
   have hLN:meaL p0 j=meaN p0:=by rw [HNN.out]; rfl
   obtain⟨ta0,tc0,e4,_⟩:∃ a c,u4=.slice a (meaN p0) c∧True:=by
    obtain⟨a',c',e,_⟩:=rgbTcame_of_own hS.out.t.1 rfl
    rw[tbL_length,hLN] at e
    exact⟨a',c',e,trivial⟩
   obtain⟨ca0,cc0,e5,_,hcc0,_⟩:=hS.out.t.2.1.form
   rw[cvL_length,hLN] at e5 hcc0
   obtain⟨oa0,oc0,e6,_⟩:=hS.out.o.form
   rw[plcL_length] at e6
   subst e4 e5 e6
   have hOM:=hS.out.o.max
   have HOM:=hid_of hOM
   have hTF:TofI w wr (tblV p0) (.slice ta0 (meaN p0) tc0) (.slice ca0 (meaN p0) cc0) (meaN p0):=by
    rw[← hLN]
    rw[← hLN] at hS
    exact hS.out.t
   obtain⟨⟨gt,ot,rfl,_⟩,gc,oc,rfl,_⟩:=tof_cells hTF (show 0 < meaN p0 by omega)
   have H5:Hid (MoP w #[.int .i64 hw,.int .i64 hh,.int .i64 8,.int .i64 hc',.bool lace,.slice ta tn tc,.slice ca cn cc,.int .i64 rw',.int .i64 rh,.int .i64 rc,.int .i64 rd,.slice sa sn sc,.slice ka kn kc] wr∧TofI w wr (tblV p0) (.slice (some ⟨gt,ot,none⟩) (meaN p0) tc0) (.slice (some ⟨gc,oc,none⟩) (meaN p0) cc0) (meaN p0)∧NumRow wr w.heap.size (.slice oa0 j oc0) (plcL p0 j)):=⟨hS.out.m,hTF,hS.out.o⟩
   have HAP:Hid (some (⟨gc,oc,none⟩:Addr)≠oa0):=fun e=>hS.out.a gc rfl (by rw [← e]; rfl)
   clear hMo hS hC HYes HNo HC hpx hTF hOM hLN hN
   go_wp2_with fail
   clear lm m0 m1 m2 m3 m4 m5 m6 m7 m8 m9 m10 m11 m12
   go_loopg [12] 9 (fun gk i u=>∃ d:Nat,i=.int .i64 (d:Int)∧9 - d≤gk∧Hid (DepR (meaN p0) d)∧Hid (MoP w #[.int .i64 hw,.int .i64 hh,.int .i64 8,.int .i64 hc',.bool lace,.slice ta tn tc,.slice ca cn cc,.int .i64 rw',.int .i64 rh,.int .i64 rc,.int .i64 rd,.slice sa sn sc,.slice ka kn kc] u∧TofI w u (tblV p0) (.slice (some ⟨gt,ot,none⟩) (meaN p0) tc0) (.slice (some ⟨gc,oc,none⟩) (meaN p0) cc0) (meaN p0)∧NumRow u w.heap.size (.slice oa0 j oc0) (plcL p0 j)))
   case atStart=>exact⟨1,rfl,by omega,.inl rfl,H5⟩
   case round=>
    clear H5
    obtain⟨d,rfl,hgk,hd,hS⟩:=hrel
    have hd8:=dep_le hd.out
    go_wp2_with fail
    refine (pow_any d _ (by omega)).mono ?_
    rintro e wx ⟨rfl,rfl⟩
    have HD:=hid_of hd.out
    have HS:=hid_of hS.out
    clear hd hS
    obtain⟨pd,hpd⟩:∃ x,x=p2 d:=⟨_,rfl⟩
    rw[← hpd]
    by_cases hlt2:pd < (meaN p0:Int)
    ·have hst:=dep_step HD.out hbig (by rw [← hpd]; exact hlt2)
     have HD2:=hid_of hst.1
     have hd4:=hst.2
     have d2:decide (pd < (meaN p0:Int))=true:=decide_eq_true hlt2
     clear HD hpd hst
     go_wp2_with fail
     go_roundg (9 - 2 * d)
     case measure=>omega
     case rel=>exact⟨2 * d,by go_num,Nat.le_refl _,HD2,HS⟩
    ·obtain rfl:=dep_end HD.out (by rw [← hpd]; exact hlt2)
     have d2:decide (pd < (meaN p0:Int))=false:=decide_eq_false hlt2
     clear HD hpd
     go_wp2_with fail
     go_wp2_with fail
     go_loopg [13] (meaN p0+1) (fun gk z u=>∃ m:Nat,m≤meaN p0∧z=.int .i64 (m:Int)∧m≤gk∧Hid (trimC (cvL (tblV p0) (meaN p0)) (meaN p0)=trimC (cvL (tblV p0) (meaN p0)) m)∧Hid (MoP w #[.int .i64 hw,.int .i64 hh,.int .i64 8,.int .i64 hc',.bool lace,.slice ta tn tc,.slice ca cn cc,.int .i64 rw',.int .i64 rh,.int .i64 rc,.int .i64 rd,.slice sa sn sc,.slice ka kn kc] u∧TofI w u (tblV p0) (.slice (some ⟨gt,ot,none⟩) (meaN p0) tc0) (.slice (some ⟨gc,oc,none⟩) (meaN p0) cc0) (meaN p0)∧NumRow u w.heap.size (.slice oa0 j oc0) (plcL p0 j)))
     case atStart=>exact⟨meaN p0,Nat.le_refl _,rfl,by omega,rfl,HS⟩
     case round=>
      clear HS
      obtain⟨m,hm,rfl,hgk4,hT,hS⟩:=hrel
      have HT:=hid_of hT.out
      have HS:=hid_of hS.out
      clear hT hS
      have HCN:=hid_of HS.out.2.1.2.1.max
      by_cases h0:m=0
      ·subst h0
       have HR:Hid (trimC (cvL (tblV p0) (meaN p0)) (meaN p0)=0):=HT.out
       clear HT
       have hz:=HS.out.1
       have hcc1:=HCN.out.1
       have hk1:0≤cc0:=by omega
       have hk2:((0:Nat):Int)≤(cc0:Int):=by omega
       have hk3:¬ (cc0:Int) < ((0:Nat):Int):=by omega
       have hk4:(0:Int)≤((0:Nat):Int):=by omega
       have lm:=block_lt hz.1
       obtain⟨m0,m1,m2,m3,m4,m5,m6,m7,m8,m9,m10,m11,m12⟩:=zqc hz.1
       clear hz
       go_wp2_with fail
       clear lm m0 m1 m2 m3 m4 m5 m6 m7 m8 m9 m10 m11 m12
       have HS0:MB w #[.int .i64 hw,.int .i64 hh,.int .i64 8,.int .i64 hc',.bool lace,.slice ta tn tc,.slice ca cn cc,.int .i64 rw',.int .i64 rh,.int .i64 rc,.int .i64 rd,.slice sa sn sc,.slice ka kn kc] wr wr.drew:=⟨HS.out.1.called (bdraws (Below.refl _ _) 1),bdraws (Below.refl _ _) 1⟩
       refine wp_region_held (S:=MB w #[.int .i64 hw,.int .i64 hh,.int .i64 8,.int .i64 hc',.bool lace,.slice ta tn tc,.slice ca cn cc,.int .i64 rw',.int .i64 rh,.int .i64 rc,.int .i64 rd,.slice sa sn sc,.slice ka kn kc] wr) (by kernel_rfl) ?_
       show wpAnyH _ _ _ _ _ _ _ _ wr.drew
       generalize wr.drew=u0 at HS0 ⊢
       refine zqt 0 (.agg #[.int .i64 hw,.int .i64 hh,.int .i64 8,.int .i64 hc',.bool lace,.slice ta tn tc,.slice ca cn cc,.int .i64 rw',.int .i64 rh,.int .i64 rc,.int .i64 rd,.slice sa sn sc,.slice ka kn kc]) rfl ?_ HS0 ?_
       ·intro w' hS
        obtain⟨b0,b1,b2,b3,b4,b5,b6,b7,b8,b9,b10,b11,b12⟩:=zqc hS.1.1; have bl:=block_lt hS.1.1
        go_simp
       simp only [Act.put,zga,zgb,zsa,zsb,zsc]
       refine zqt 1 (.int .i64 ((tblD (meaN p0):Nat):Int)) rfl ?_ HS0 ?_
       ·intro w' _
        go_simp
       simp only [Act.put,zga,zgb,zgc,zsa,zsb,zsc]
       refine zqt 2 (.slice oa0 j oc0) rfl ?_ HS0 ?_
       ·intro w' _
        go_simp
       simp only [Act.put,zga,zgb,zgc,zsa,zsb,zsc]
       refine zqt 3 (.slice (some ⟨gc,oc,none⟩) (meaN p0) cc0) rfl ?_ HS0 ?_
       ·intro w' _
        go_simp
       simp only [Act.put,zga,zgb,zgc,zsa,zsb,zsc]
       refine zqt 4 (.int .i64 ((0:Nat):Int)) rfl ?_ HS0 ?_
       ·intro w' _
        go_simp
       simp only [Act.put,zga,zgb,zgc,zsa,zsb,zsc]
       refine zqt 5 (.slice (some ⟨gc,oc,none⟩) (0) cc0) rfl ?_ HS0 ?_
       ·intro w' _
        go_simp
       simp only [Act.put,zga,zgb,zgc,zsa,zsb,zsc]
       refine wpAnyH_ready (rs:=[6,7]) (by kernel_rfl) (by simp) ?_
       refine AllReadyH.cons rfl (fun K1 hK=>?_) (AllReadyH.cons rfl (fun K1 hK=>?_) AllReadyH.nil)
       ·refine if_wanted (wanted_none rfl) ?_
        simp only [zga,zgb,zgc]
        go_simp
        refine (hr _ oa0 j oc0 (some ⟨gc,oc,none⟩) (0) cc0 _ (HP.out.called HS0.1.2.2)).mono ?_
        rintro e u2 ⟨kk,kc1,he,hk,hB⟩
        simp only [HE.out.1,HE.out.2.1,HE.out.2.2.1,HE.out.2.2.2.1,HE.out.2.2.2.2] at he hk
        subst he
        have HT:=HS0.called hB
        refine hK.out _ _ HT (fun HS2=>?_)
        have HA3:Hid (KSL u2 w.heap.size kk kn K):=ksl_low2 hk HS0.1.2.2.size
        clear hK hr
        clear hB HT hk
        refine zqr 7 rfl (fun K1 hK=>?_)
        refine if_wanted (wanted_none rfl) ?_
        simp only [zga,zgb,zgc]
        go_simp
        refine hK.out _ _ (HS2.called (bstart u2 (.cells #[.int .i64 0,.int .i64 0,.int .i64 0,.int .i64 0,.bool false,.slice none 0 0,.slice none 0 0,.int .i64 0,.int .i64 0,.int .i64 0,.int .i64 0,.slice none 0 0,.slice none 0 0] 37))) (fun HS3=>?_)
        clear hK
        have HX:Hid (TK w #[.int .i64 hw,.int .i64 hh,.int .i64 8,.int .i64 hc',.bool lace,.slice ta tn tc,.slice ca cn cc,.int .i64 rw',.int .i64 rh,.int .i64 rc,.int .i64 rd,.slice sa sn sc,.slice ka kn kc] wr u2.heap.size #[.int .i64 0,.int .i64 0,.int .i64 0,.int .i64 0,.bool false,.slice none 0 0,.slice none 0 0,.int .i64 0,.int .i64 0,.int .i64 0,.int .i64 0,.slice none 0 0,.slice none 0 0] kk kn K (u2.alloc (.cells #[.int .i64 0,.int .i64 0,.int .i64 0,.int .i64 0,.bool false,.slice none 0 0,.slice none 0 0,.int .i64 0,.int .i64 0,.int .i64 0,.int .i64 0,.slice none 0 0,.slice none 0 0] 37))):=⟨⟨HS3.1,heap_alloc_new u2 _,HA3.out.called (bstart u2 _),HS2.1.cells.2.2⟩,HS3.2,HS2.2.size⟩
        generalize u2.alloc (.cells #[.int .i64 0,.int .i64 0,.int .i64 0,.int .i64 0,.bool false,.slice none 0 0,.slice none 0 0,.int .i64 0,.int .i64 0,.int .i64 0,.int .i64 0,.slice none 0 0,.slice none 0 0] 37)=u3 at HX HS3 ⊢
        clear HA3 HS2 HS3
        obtain⟨x0,x1,x2,x3,x4,x5,x6,x7,x8,x9,x10,x11,x12⟩:=zqc HX.out.k.x
        have xf:∀ k,u3.frozen? ⟨u2.heap.size,k,none⟩=false:=unfrozen_of_block HX.out.k.x
        have xl:=block_lt HX.out.k.x
        have H4:=hid_of ((((((((((((((HX.out.set 0 (.int .i64 hw)).set 1 (.int .i64 hh)).set 2 (.int .i64 ((tblD (meaN p0):Nat):Int))).set 3 (.int .i64 3)).set 4 (.bool lace)).set 5 (.slice none 0 0)).set 6 (.slice (some ⟨gc,oc,none⟩) (0) cc0)).set 7 (.int .i64 hw)).set 8 (.int .i64 hh)).set 9 (.int .i64 3)).set 10 (.int .i64 ((tblD (meaN p0):Nat):Int))).set 11 (.slice oa0 j oc0)).set 12 (.slice kk kn kc1)))
        simp only [zsa,zsb,zsc] at H4
        refine zqr 8 rfl (fun K1 hK=>?_)
        refine if_wanted (wanted_none rfl) ?_
        simp only [zga,zgb,zgc]
        go_simp
        refine hK.out _ _ ⟨H4.out.k.m,H4.out.b⟩ (fun HS4=>?_)
        clear hK
        refine wpAnyH_done (by kernel_rfl) ?_ _
        clear HS4 HX xf xl HS0 x0 x1 x2 x3 x4 x5 x6 x7 x8 x9 x10 x11 x12
        generalize (((((((((((((u3.setCell ⟨u2.heap.size,0,none⟩ (.int .i64 hw)).setCell ⟨u2.heap.size,1,none⟩ (.int .i64 hh)).setCell ⟨u2.heap.size,2,none⟩ (.int .i64 ((tblD (meaN p0):Nat):Int))).setCell ⟨u2.heap.size,3,none⟩ (.int .i64 3)).setCell ⟨u2.heap.size,4,none⟩ (.bool lace)).setCell ⟨u2.heap.size,5,none⟩ (.slice none 0 0)).setCell ⟨u2.heap.size,6,none⟩ (.slice (some ⟨gc,oc,none⟩) (0) cc0)).setCell ⟨u2.heap.size,7,none⟩ (.int .i64 hw)).setCell ⟨u2.heap.size,8,none⟩ (.int .i64 hh)).setCell ⟨u2.heap.size,9,none⟩ (.int .i64 3)).setCell ⟨u2.heap.size,10,none⟩ (.int .i64 ((tblD (meaN p0):Nat):Int))).setCell ⟨u2.heap.size,11,none⟩ (.slice oa0 j oc0)).setCell ⟨u2.heap.size,12,none⟩ (.slice kk kn kc1))=w4 at H4 ⊢
        generalize u2.heap.size=X at H4 ⊢
        obtain⟨_,_,_,_,he,hT1,hT2,_⟩:=tof_end HS.out.2.1 HR.out
        simp only [Ending.returned.injEq,Value.tuple.injEq,Array.mk.injEq,List.cons.injEq,Value.slice.injEq,and_true] at he
        obtain⟨⟨rfl,-,rfl⟩,rfl,-,rfl⟩:=he
        have hP3:SL wr w.heap.size oa0 j oc0 (fun i=>(plc (pq p0) i:Int)):=(sl_of_num HS.out.2.2 (plcL_length _ _).symm).congr fun i hi=>plcL_get _ _ _ hi
        have H5:Hid (WX w #[.int .i64 hw,.int .i64 hh,.int .i64 8,.int .i64 hc',.bool lace,.slice ta tn tc,.slice ca cn cc,.int .i64 rw',.int .i64 rh,.int .i64 rc,.int .i64 rd,.slice sa sn sc,.slice ka kn kc] X #[.int .i64 hw,.int .i64 hh,.int .i64 ((tblD (meaN p0):Nat):Int),.int .i64 3,.bool lace,.slice none 0 0,.slice (some ⟨gc,oc,none⟩) (0) cc0,.int .i64 hw,.int .i64 hh,.int .i64 3,.int .i64 ((tblD (meaN p0):Nat):Int),.slice oa0 j oc0,.slice kk kn kc1] (tblP p0) ⟨some ⟨gt,ot,none⟩,tc0,some ⟨gc,oc,none⟩,cc0,oa0,oc0,kk,kc1⟩ w4):=⟨⟨H4.out.k.m,HMk.out _ _ _ _ _ _ _ _ _ (hT1.called H4.out.b) (hT2.called H4.out.b) (hP3.called H4.out.b) (by rw [HE.out.1,HE.out.2.1]; exact H4.out.k.k) (.inr (.inr HAP.out)) HOM.out⟩,H4.out.k.x,H4.out.k.lt⟩
        rw[HR.out] at HY
        clear hT1 hT2 hP3 H4 HMk HS HAP HOM HR HCN hcc1 hk1 hk2 hk3 hk4 hn1 hn2
        obtain⟨x0,x1,x2,x3,x4,x5,x6,x7,x8,x9,x10,x11,x12⟩:=zqc H5.out.x
        have xf:∀ k,w4.frozen? ⟨X,k,none⟩=false:=unfrozen_of_block H5.out.x
        have xl:=block_lt H5.out.x
        have n0:¬ X=w.heap.size:=by have:=H5.out.lt; omega
        have n1:¬ X=w.heap.size+1:=by have:=H5.out.lt; omega
        have n2:¬ w.heap.size=X:=by have:=H5.out.lt; omega
        have n3:¬ w.heap.size+1=X:=by have:=H5.out.lt; omega
        obtain⟨⟨z0,z1,z2,z3,z4,z5,z6,z7,z8,z9,z10,z11,z12,y0,y1,y2,y3,y4,y5,y6,y7,y8,y9,y10,y11,y12⟩,yf,yl⟩:=H5.out.p.m.cells
        go_wp2_with fail
        refine bodyPost_ret (v:=.tuple #[.agg #[.int .i64 hw,.int .i64 hh,.int .i64 ((tblD (meaN p0):Nat):Int),.int .i64 3,.bool lace,.slice (some ⟨gt,ot,none⟩) (meaN p0) tc0,.slice (some ⟨gc,oc,none⟩) (0) cc0,.int .i64 hw,.int .i64 hh,.int .i64 3,.int .i64 ((tblD (meaN p0):Nat):Int),.slice oa0 j oc0,.slice kk kn kc1],.bool true]) ?_ rfl (HY.out _ (some ⟨gt,ot,none⟩) (some ⟨gc,oc,none⟩) oa0 kk tc0 cc0 oc0 kc1 ?_ ?_)
        ·simp[results,Tryz.results17,go_sem, *]
        ·exact ((H5.out.set 5 _).p.stored _ _ _ _ _ _ _ _ _ _ _ _ _ ).1
        ·exact ((H5.out.set 5 _).p.stored _ _ _ _ _ _ _ _ _ _ _ _ _ ).2
       ·refine if_wanted (wanted_none rfl) ?_
        simp only [zga,zgb,zgc]
        go_simp
        refine hK.out _ _ (HS0.called (bstart u0 (.cells #[.int .i64 0,.int .i64 0,.int .i64 0,.int .i64 0,.bool false,.slice none 0 0,.slice none 0 0,.int .i64 0,.int .i64 0,.int .i64 0,.int .i64 0,.slice none 0 0,.slice none 0 0] 37))) (fun HS1=>?_)
        clear hK
        have hblk0:BoxAt (u0.alloc (.cells #[.int .i64 0,.int .i64 0,.int .i64 0,.int .i64 0,.bool false,.slice none 0 0,.slice none 0 0,.int .i64 0,.int .i64 0,.int .i64 0,.int .i64 0,.slice none 0 0,.slice none 0 0] 37)) u0.heap.size #[.int .i64 0,.int .i64 0,.int .i64 0,.int .i64 0,.bool false,.slice none 0 0,.slice none 0 0,.int .i64 0,.int .i64 0,.int .i64 0,.int .i64 0,.slice none 0 0,.slice none 0 0]:=heap_alloc_new u0 _
        have hX1:w.heap.size+1 < u0.heap.size:=HS0.1.cells.2.2
        have hX2:wr.heap.size≤u0.heap.size:=HS0.2.size
        generalize u0.alloc (.cells #[.int .i64 0,.int .i64 0,.int .i64 0,.int .i64 0,.bool false,.slice none 0 0,.slice none 0 0,.int .i64 0,.int .i64 0,.int .i64 0,.int .i64 0,.slice none 0 0,.slice none 0 0] 37)=u1 at HS1 hblk0 ⊢
        refine zqr 6 rfl (fun K1 hK=>?_)
        refine if_wanted (wanted_none rfl) ?_
        simp only [zga,zgb,zgc]
        go_simp
        refine (hr _ oa0 j oc0 (some ⟨gc,oc,none⟩) (0) cc0 _ (HP.out.called HS1.1.2.2)).mono ?_
        rintro e u2 ⟨kk,kc1,he,hk,hB⟩
        simp only [HE.out.1,HE.out.2.1,HE.out.2.2.1,HE.out.2.2.2.1,HE.out.2.2.2.2] at he hk
        subst he
        have HT:=HS1.called hB
        refine hK.out _ _ HT (fun HS2=>?_)
        have HA3:Hid (KSL u2 w.heap.size kk kn K):=ksl_low2 hk HS1.1.2.2.size
        clear hK hr
        have HX:Hid (TK w #[.int .i64 hw,.int .i64 hh,.int .i64 8,.int .i64 hc',.bool lace,.slice ta tn tc,.slice ca cn cc,.int .i64 rw',.int .i64 rh,.int .i64 rc,.int .i64 rd,.slice sa sn sc,.slice ka kn kc] wr u0.heap.size #[.int .i64 0,.int .i64 0,.int .i64 0,.int .i64 0,.bool false,.slice none 0 0,.slice none 0 0,.int .i64 0,.int .i64 0,.int .i64 0,.int .i64 0,.slice none 0 0,.slice none 0 0] kk kn K u2):=⟨⟨HS2.1,hblk0.called hB,HA3.out,hX1⟩,HS2.2,hX2⟩
        clear hB HT hk hblk0 HS1 hX1 hX2 HA3 HS2
        obtain⟨x0,x1,x2,x3,x4,x5,x6,x7,x8,x9,x10,x11,x12⟩:=zqc HX.out.k.x
        have xf:∀ k,u2.frozen? ⟨u0.heap.size,k,none⟩=false:=unfrozen_of_block HX.out.k.x
        have xl:=block_lt HX.out.k.x
        have H4:=hid_of ((((((((((((((HX.out.set 0 (.int .i64 hw)).set 1 (.int .i64 hh)).set 2 (.int .i64 ((tblD (meaN p0):Nat):Int))).set 3 (.int .i64 3)).set 4 (.bool lace)).set 5 (.slice none 0 0)).set 6 (.slice (some ⟨gc,oc,none⟩) (0) cc0)).set 7 (.int .i64 hw)).set 8 (.int .i64 hh)).set 9 (.int .i64 3)).set 10 (.int .i64 ((tblD (meaN p0):Nat):Int))).set 11 (.slice oa0 j oc0)).set 12 (.slice kk kn kc1)))
        simp only [zsa,zsb,zsc] at H4
        refine zqr 8 rfl (fun K1 hK=>?_)
        refine if_wanted (wanted_none rfl) ?_
        simp only [zga,zgb,zgc]
        go_simp
        refine hK.out _ _ ⟨H4.out.k.m,H4.out.b⟩ (fun HS4=>?_)
        clear hK
        refine wpAnyH_done (by kernel_rfl) ?_ _
        clear HS4 HX xf xl HS0 x0 x1 x2 x3 x4 x5 x6 x7 x8 x9 x10 x11 x12
        generalize (((((((((((((u2.setCell ⟨u0.heap.size,0,none⟩ (.int .i64 hw)).setCell ⟨u0.heap.size,1,none⟩ (.int .i64 hh)).setCell ⟨u0.heap.size,2,none⟩ (.int .i64 ((tblD (meaN p0):Nat):Int))).setCell ⟨u0.heap.size,3,none⟩ (.int .i64 3)).setCell ⟨u0.heap.size,4,none⟩ (.bool lace)).setCell ⟨u0.heap.size,5,none⟩ (.slice none 0 0)).setCell ⟨u0.heap.size,6,none⟩ (.slice (some ⟨gc,oc,none⟩) (0) cc0)).setCell ⟨u0.heap.size,7,none⟩ (.int .i64 hw)).setCell ⟨u0.heap.size,8,none⟩ (.int .i64 hh)).setCell ⟨u0.heap.size,9,none⟩ (.int .i64 3)).setCell ⟨u0.heap.size,10,none⟩ (.int .i64 ((tblD (meaN p0):Nat):Int))).setCell ⟨u0.heap.size,11,none⟩ (.slice oa0 j oc0)).setCell ⟨u0.heap.size,12,none⟩ (.slice kk kn kc1))=w4 at H4 ⊢
        generalize u0.heap.size=X at H4 ⊢
        obtain⟨_,_,_,_,he,hT1,hT2,_⟩:=tof_end HS.out.2.1 HR.out
        simp only [Ending.returned.injEq,Value.tuple.injEq,Array.mk.injEq,List.cons.injEq,Value.slice.injEq,and_true] at he
        obtain⟨⟨rfl,-,rfl⟩,rfl,-,rfl⟩:=he
        have hP3:SL wr w.heap.size oa0 j oc0 (fun i=>(plc (pq p0) i:Int)):=(sl_of_num HS.out.2.2 (plcL_length _ _).symm).congr fun i hi=>plcL_get _ _ _ hi
        have H5:Hid (WX w #[.int .i64 hw,.int .i64 hh,.int .i64 8,.int .i64 hc',.bool lace,.slice ta tn tc,.slice ca cn cc,.int .i64 rw',.int .i64 rh,.int .i64 rc,.int .i64 rd,.slice sa sn sc,.slice ka kn kc] X #[.int .i64 hw,.int .i64 hh,.int .i64 ((tblD (meaN p0):Nat):Int),.int .i64 3,.bool lace,.slice none 0 0,.slice (some ⟨gc,oc,none⟩) (0) cc0,.int .i64 hw,.int .i64 hh,.int .i64 3,.int .i64 ((tblD (meaN p0):Nat):Int),.slice oa0 j oc0,.slice kk kn kc1] (tblP p0) ⟨some ⟨gt,ot,none⟩,tc0,some ⟨gc,oc,none⟩,cc0,oa0,oc0,kk,kc1⟩ w4):=⟨⟨H4.out.k.m,HMk.out _ _ _ _ _ _ _ _ _ (hT1.called H4.out.b) (hT2.called H4.out.b) (hP3.called H4.out.b) (by rw [HE.out.1,HE.out.2.1]; exact H4.out.k.k) (.inr (.inr HAP.out)) HOM.out⟩,H4.out.k.x,H4.out.k.lt⟩
        rw[HR.out] at HY
        clear hT1 hT2 hP3 H4 HMk HS HAP HOM HR HCN hcc1 hk1 hk2 hk3 hk4 hn1 hn2
        obtain⟨x0,x1,x2,x3,x4,x5,x6,x7,x8,x9,x10,x11,x12⟩:=zqc H5.out.x
        have xf:∀ k,w4.frozen? ⟨X,k,none⟩=false:=unfrozen_of_block H5.out.x
        have xl:=block_lt H5.out.x
        have n0:¬ X=w.heap.size:=by have:=H5.out.lt; omega
        have n1:¬ X=w.heap.size+1:=by have:=H5.out.lt; omega
        have n2:¬ w.heap.size=X:=by have:=H5.out.lt; omega
        have n3:¬ w.heap.size+1=X:=by have:=H5.out.lt; omega
        obtain⟨⟨z0,z1,z2,z3,z4,z5,z6,z7,z8,z9,z10,z11,z12,y0,y1,y2,y3,y4,y5,y6,y7,y8,y9,y10,y11,y12⟩,yf,yl⟩:=H5.out.p.m.cells
        go_wp2_with fail
        refine bodyPost_ret (v:=.tuple #[.agg #[.int .i64 hw,.int .i64 hh,.int .i64 ((tblD (meaN p0):Nat):Int),.int .i64 3,.bool lace,.slice (some ⟨gt,ot,none⟩) (meaN p0) tc0,.slice (some ⟨gc,oc,none⟩) (0) cc0,.int .i64 hw,.int .i64 hh,.int .i64 3,.int .i64 ((tblD (meaN p0):Nat):Int),.slice oa0 j oc0,.slice kk kn kc1],.bool true]) ?_ rfl (HY.out _ (some ⟨gt,ot,none⟩) (some ⟨gc,oc,none⟩) oa0 kk tc0 cc0 oc0 kc1 ?_ ?_)
        ·simp[results,Tryz.results17,go_sem, *]
        ·exact ((H5.out.set 5 _).p.stored _ _ _ _ _ _ _ _ _ _ _ _ _ ).1
        ·exact ((H5.out.set 5 _).p.stored _ _ _ _ _ _ _ _ _ _ _ _ _ ).2
      ·obtain⟨k,rfl⟩:∃ k,m=k+1:=⟨m - 1,by omega⟩
       obtain⟨_,gc2,oc2,e,ccl,t3⟩:=tof_cells HS.out.2.1 (show k < meaN p0 by omega)
       have e1:gc2=gc:=by
        cases e
        rfl
       have e2:oc2=oc:=by
        cases e
        rfl
       rw[e1,e2] at t3
       rw[e1] at ccl
       clear e e1 e2 gc2 oc2
       have HTS:Hid (trimC (cvL (tblV p0) (meaN p0)) (k+1)=if (tblV p0 k).2.2.2 / 257=255 then trimC (cvL (tblV p0) (meaN p0)) k else k+1):=by
        show _=_
        rw[← cvL_get (tblV p0) (meaN p0) k (by omega)]
        rfl
       have hk0:(k:Int)+1 - 1=(k:Int):=by omega
       have wk:IntKind.i64.wrap ((k:Int)+1 - 1)=(k:Int):=by rw [IntKind.wrap_i64]; omega
       have wk2:IntKind.i64.wrap (k:Int)=(k:Int):=by rw [IntKind.wrap_i64]; omega
       have hp:(0:Int) < (k:Int)+1:=by omega
       have hkn:(k:Int) < (meaN p0:Int):=by omega
       have hkn2:k < meaN p0:=by omega
       have hk5:(0:Int)≤(k:Int):=by omega
       by_cases e255:(tblV p0 k).2.2.2 / 257=255
       ·have HT2:Hid (trimC (cvL (tblV p0) (meaN p0)) (meaN p0)=trimC (cvL (tblV p0) (meaN p0)) k):=by
         show _=_
         rw[HT.out,HTS.out,if_pos e255]
        have ne:((tblV p0 k).2.2.2 / 257 == 255)=true:=by simpa using e255
        generalize (tblV p0 k).2.2.2 / 257=y at t3 ne
        clear e255 HT HTS
        go_wp2_with fail
        go_roundg k
        case measure=>omega
        case rel=>exact⟨k,by omega,by go_num,Nat.le_refl _,HT2,HS⟩
       ·have HR:Hid (trimC (cvL (tblV p0) (meaN p0)) (meaN p0)=k+1):=by
         show _=_
         rw[HT.out,HTS.out,if_neg e255]
        have ne:((tblV p0 k).2.2.2 / 257 == 255)=false:=by simpa using e255
        generalize (tblV p0 k).2.2.2 / 257=y at t3 ne
        clear e255 HT HTS
        have hz:=HS.out.1
        have hcc1:=HCN.out.1
        have hk1:k+1≤cc0:=by omega
        have hk2:((k+1:Nat):Int)≤(cc0:Int):=by omega
        have hk3:¬ (cc0:Int) < ((k+1:Nat):Int):=by omega
        have hk4:(0:Int)≤((k+1:Nat):Int):=by omega
        have hk6:¬ (cc0:Int) < (k:Int)+1:=by omega
        have hk7:(0:Int)≤(k:Int)+1:=by omega
        have hk8:(k:Int)+1≤(cc0:Int):=by omega
        have lm:=block_lt hz.1
        obtain⟨m0,m1,m2,m3,m4,m5,m6,m7,m8,m9,m10,m11,m12⟩:=zqc hz.1
        clear hz
        go_wp2_with fail
        clear lm m0 m1 m2 m3 m4 m5 m6 m7 m8 m9 m10 m11 m12
        have HS0:MB w #[.int .i64 hw,.int .i64 hh,.int .i64 8,.int .i64 hc',.bool lace,.slice ta tn tc,.slice ca cn cc,.int .i64 rw',.int .i64 rh,.int .i64 rc,.int .i64 rd,.slice sa sn sc,.slice ka kn kc] wr wr.drew:=⟨HS.out.1.called (bdraws (Below.refl _ _) 1),bdraws (Below.refl _ _) 1⟩
        refine wp_region_held (S:=MB w #[.int .i64 hw,.int .i64 hh,.int .i64 8,.int .i64 hc',.bool lace,.slice ta tn tc,.slice ca cn cc,.int .i64 rw',.int .i64 rh,.int .i64 rc,.int .i64 rd,.slice sa sn sc,.slice ka kn kc] wr) (by kernel_rfl) ?_
        show wpAnyH _ _ _ _ _ _ _ _ wr.drew
        generalize wr.drew=u0 at HS0 ⊢
        refine zqt 0 (.agg #[.int .i64 hw,.int .i64 hh,.int .i64 8,.int .i64 hc',.bool lace,.slice ta tn tc,.slice ca cn cc,.int .i64 rw',.int .i64 rh,.int .i64 rc,.int .i64 rd,.slice sa sn sc,.slice ka kn kc]) rfl ?_ HS0 ?_
        ·intro w' hS
         obtain⟨b0,b1,b2,b3,b4,b5,b6,b7,b8,b9,b10,b11,b12⟩:=zqc hS.1.1; have bl:=block_lt hS.1.1
         go_simp
        simp only [Act.put,zga,zgb,zsa,zsb,zsc]
        refine zqt 1 (.int .i64 ((tblD (meaN p0):Nat):Int)) rfl ?_ HS0 ?_
        ·intro w' _
         go_simp
        simp only [Act.put,zga,zgb,zgc,zsa,zsb,zsc]
        refine zqt 2 (.slice oa0 j oc0) rfl ?_ HS0 ?_
        ·intro w' _
         go_simp
        simp only [Act.put,zga,zgb,zgc,zsa,zsb,zsc]
        refine zqt 3 (.slice (some ⟨gc,oc,none⟩) (meaN p0) cc0) rfl ?_ HS0 ?_
        ·intro w' _
         go_simp
        simp only [Act.put,zga,zgb,zgc,zsa,zsb,zsc]
        refine zqt 4 (.int .i64 ((k+1:Nat):Int)) rfl ?_ HS0 ?_
        ·intro w' _
         go_simp
        simp only [Act.put,zga,zgb,zgc,zsa,zsb,zsc]
        refine zqt 5 (.slice (some ⟨gc,oc,none⟩) (k+1) cc0) rfl ?_ HS0 ?_
        ·intro w' _
         go_simp
        simp only [Act.put,zga,zgb,zgc,zsa,zsb,zsc]
        refine wpAnyH_ready (rs:=[6,7]) (by kernel_rfl) (by simp) ?_
        refine AllReadyH.cons rfl (fun K1 hK=>?_) (AllReadyH.cons rfl (fun K1 hK=>?_) AllReadyH.nil)
        ·refine if_wanted (wanted_none rfl) ?_
         simp only [zga,zgb,zgc]
         go_simp
         refine (hr _ oa0 j oc0 (some ⟨gc,oc,none⟩) (k+1) cc0 _ (HP.out.called HS0.1.2.2)).mono ?_
         rintro e u2 ⟨kk,kc1,he,hk,hB⟩
         simp only [HE.out.1,HE.out.2.1,HE.out.2.2.1,HE.out.2.2.2.1,HE.out.2.2.2.2] at he hk
         subst he
         have HT:=HS0.called hB
         refine hK.out _ _ HT (fun HS2=>?_)
         have HA3:Hid (KSL u2 w.heap.size kk kn K):=ksl_low2 hk HS0.1.2.2.size
         clear hK hr
         clear hB HT hk
         refine zqr 7 rfl (fun K1 hK=>?_)
         refine if_wanted (wanted_none rfl) ?_
         simp only [zga,zgb,zgc]
         go_simp
         refine hK.out _ _ (HS2.called (bstart u2 (.cells #[.int .i64 0,.int .i64 0,.int .i64 0,.int .i64 0,.bool false,.slice none 0 0,.slice none 0 0,.int .i64 0,.int .i64 0,.int .i64 0,.int .i64 0,.slice none 0 0,.slice none 0 0] 37))) (fun HS3=>?_)
         clear hK
         have HX:Hid (TK w #[.int .i64 hw,.int .i64 hh,.int .i64 8,.int .i64 hc',.bool lace,.slice ta tn tc,.slice ca cn cc,.int .i64 rw',.int .i64 rh,.int .i64 rc,.int .i64 rd,.slice sa sn sc,.slice ka kn kc] wr u2.heap.size #[.int .i64 0,.int .i64 0,.int .i64 0,.int .i64 0,.bool false,.slice none 0 0,.slice none 0 0,.int .i64 0,.int .i64 0,.int .i64 0,.int .i64 0,.slice none 0 0,.slice none 0 0] kk kn K (u2.alloc (.cells #[.int .i64 0,.int .i64 0,.int .i64 0,.int .i64 0,.bool false,.slice none 0 0,.slice none 0 0,.int .i64 0,.int .i64 0,.int .i64 0,.int .i64 0,.slice none 0 0,.slice none 0 0] 37))):=⟨⟨HS3.1,heap_alloc_new u2 _,HA3.out.called (bstart u2 _),HS2.1.cells.2.2⟩,HS3.2,HS2.2.size⟩
         generalize u2.alloc (.cells #[.int .i64 0,.int .i64 0,.int .i64 0,.int .i64 0,.bool false,.slice none 0 0,.slice none 0 0,.int .i64 0,.int .i64 0,.int .i64 0,.int .i64 0,.slice none 0 0,.slice none 0 0] 37)=u3 at HX HS3 ⊢
         clear HA3 HS2 HS3
         obtain⟨x0,x1,x2,x3,x4,x5,x6,x7,x8,x9,x10,x11,x12⟩:=zqc HX.out.k.x
         have xf:∀ k,u3.frozen? ⟨u2.heap.size,k,none⟩=false:=unfrozen_of_block HX.out.k.x
         have xl:=block_lt HX.out.k.x
         have H4:=hid_of ((((((((((((((HX.out.set 0 (.int .i64 hw)).set 1 (.int .i64 hh)).set 2 (.int .i64 ((tblD (meaN p0):Nat):Int))).set 3 (.int .i64 3)).set 4 (.bool lace)).set 5 (.slice none 0 0)).set 6 (.slice (some ⟨gc,oc,none⟩) (k+1) cc0)).set 7 (.int .i64 hw)).set 8 (.int .i64 hh)).set 9 (.int .i64 3)).set 10 (.int .i64 ((tblD (meaN p0):Nat):Int))).set 11 (.slice oa0 j oc0)).set 12 (.slice kk kn kc1)))
         simp only [zsa,zsb,zsc] at H4
         refine zqr 8 rfl (fun K1 hK=>?_)
         refine if_wanted (wanted_none rfl) ?_
         simp only [zga,zgb,zgc]
         go_simp
         refine hK.out _ _ ⟨H4.out.k.m,H4.out.b⟩ (fun HS4=>?_)
         clear hK
         refine wpAnyH_done (by kernel_rfl) ?_ _
         clear HS4 HX xf xl HS0 x0 x1 x2 x3 x4 x5 x6 x7 x8 x9 x10 x11 x12
         generalize (((((((((((((u3.setCell ⟨u2.heap.size,0,none⟩ (.int .i64 hw)).setCell ⟨u2.heap.size,1,none⟩ (.int .i64 hh)).setCell ⟨u2.heap.size,2,none⟩ (.int .i64 ((tblD (meaN p0):Nat):Int))).setCell ⟨u2.heap.size,3,none⟩ (.int .i64 3)).setCell ⟨u2.heap.size,4,none⟩ (.bool lace)).setCell ⟨u2.heap.size,5,none⟩ (.slice none 0 0)).setCell ⟨u2.heap.size,6,none⟩ (.slice (some ⟨gc,oc,none⟩) (k+1) cc0)).setCell ⟨u2.heap.size,7,none⟩ (.int .i64 hw)).setCell ⟨u2.heap.size,8,none⟩ (.int .i64 hh)).setCell ⟨u2.heap.size,9,none⟩ (.int .i64 3)).setCell ⟨u2.heap.size,10,none⟩ (.int .i64 ((tblD (meaN p0):Nat):Int))).setCell ⟨u2.heap.size,11,none⟩ (.slice oa0 j oc0)).setCell ⟨u2.heap.size,12,none⟩ (.slice kk kn kc1))=w4 at H4 ⊢
         generalize u2.heap.size=X at H4 ⊢
         obtain⟨_,_,_,_,he,hT1,hT2,_⟩:=tof_end HS.out.2.1 HR.out
         simp only [Ending.returned.injEq,Value.tuple.injEq,Array.mk.injEq,List.cons.injEq,Value.slice.injEq,and_true] at he
         obtain⟨⟨rfl,-,rfl⟩,rfl,-,rfl⟩:=he
         have hP3:SL wr w.heap.size oa0 j oc0 (fun i=>(plc (pq p0) i:Int)):=(sl_of_num HS.out.2.2 (plcL_length _ _).symm).congr fun i hi=>plcL_get _ _ _ hi
         have H5:Hid (WX w #[.int .i64 hw,.int .i64 hh,.int .i64 8,.int .i64 hc',.bool lace,.slice ta tn tc,.slice ca cn cc,.int .i64 rw',.int .i64 rh,.int .i64 rc,.int .i64 rd,.slice sa sn sc,.slice ka kn kc] X #[.int .i64 hw,.int .i64 hh,.int .i64 ((tblD (meaN p0):Nat):Int),.int .i64 3,.bool lace,.slice none 0 0,.slice (some ⟨gc,oc,none⟩) (k+1) cc0,.int .i64 hw,.int .i64 hh,.int .i64 3,.int .i64 ((tblD (meaN p0):Nat):Int),.slice oa0 j oc0,.slice kk kn kc1] (tblP p0) ⟨some ⟨gt,ot,none⟩,tc0,some ⟨gc,oc,none⟩,cc0,oa0,oc0,kk,kc1⟩ w4):=⟨⟨H4.out.k.m,HMk.out _ _ _ _ _ _ _ _ _ (hT1.called H4.out.b) (hT2.called H4.out.b) (hP3.called H4.out.b) (by rw [HE.out.1,HE.out.2.1]; exact H4.out.k.k) (.inr (.inr HAP.out)) HOM.out⟩,H4.out.k.x,H4.out.k.lt⟩
         rw[HR.out] at HY
         clear hT1 hT2 hP3 H4 HMk HS HAP HOM HR HCN hcc1 hk1 hk2 hk3 hk4 hn1 hn2
         obtain⟨x0,x1,x2,x3,x4,x5,x6,x7,x8,x9,x10,x11,x12⟩:=zqc H5.out.x
         have xf:∀ k,w4.frozen? ⟨X,k,none⟩=false:=unfrozen_of_block H5.out.x
         have xl:=block_lt H5.out.x
         have n0:¬ X=w.heap.size:=by have:=H5.out.lt; omega
         have n1:¬ X=w.heap.size+1:=by have:=H5.out.lt; omega
         have n2:¬ w.heap.size=X:=by have:=H5.out.lt; omega
         have n3:¬ w.heap.size+1=X:=by have:=H5.out.lt; omega
         obtain⟨⟨z0,z1,z2,z3,z4,z5,z6,z7,z8,z9,z10,z11,z12,y0,y1,y2,y3,y4,y5,y6,y7,y8,y9,y10,y11,y12⟩,yf,yl⟩:=H5.out.p.m.cells
         go_wp2_with fail
         refine bodyPost_ret (v:=.tuple #[.agg #[.int .i64 hw,.int .i64 hh,.int .i64 ((tblD (meaN p0):Nat):Int),.int .i64 3,.bool lace,.slice (some ⟨gt,ot,none⟩) (meaN p0) tc0,.slice (some ⟨gc,oc,none⟩) (k+1) cc0,.int .i64 hw,.int .i64 hh,.int .i64 3,.int .i64 ((tblD (meaN p0):Nat):Int),.slice oa0 j oc0,.slice kk kn kc1],.bool true]) ?_ rfl (HY.out _ (some ⟨gt,ot,none⟩) (some ⟨gc,oc,none⟩) oa0 kk tc0 cc0 oc0 kc1 ?_ ?_)
         ·simp[results,Tryz.results17,go_sem, *]
         ·exact ((H5.out.set 5 _).p.stored _ _ _ _ _ _ _ _ _ _ _ _ _ ).1
         ·exact ((H5.out.set 5 _).p.stored _ _ _ _ _ _ _ _ _ _ _ _ _ ).2
        ·refine if_wanted (wanted_none rfl) ?_
         simp only [zga,zgb,zgc]
         go_simp
         refine hK.out _ _ (HS0.called (bstart u0 (.cells #[.int .i64 0,.int .i64 0,.int .i64 0,.int .i64 0,.bool false,.slice none 0 0,.slice none 0 0,.int .i64 0,.int .i64 0,.int .i64 0,.int .i64 0,.slice none 0 0,.slice none 0 0] 37))) (fun HS1=>?_)
         clear hK
         have hblk0:BoxAt (u0.alloc (.cells #[.int .i64 0,.int .i64 0,.int .i64 0,.int .i64 0,.bool false,.slice none 0 0,.slice none 0 0,.int .i64 0,.int .i64 0,.int .i64 0,.int .i64 0,.slice none 0 0,.slice none 0 0] 37)) u0.heap.size #[.int .i64 0,.int .i64 0,.int .i64 0,.int .i64 0,.bool false,.slice none 0 0,.slice none 0 0,.int .i64 0,.int .i64 0,.int .i64 0,.int .i64 0,.slice none 0 0,.slice none 0 0]:=heap_alloc_new u0 _
         have hX1:w.heap.size+1 < u0.heap.size:=HS0.1.cells.2.2
         have hX2:wr.heap.size≤u0.heap.size:=HS0.2.size
         generalize u0.alloc (.cells #[.int .i64 0,.int .i64 0,.int .i64 0,.int .i64 0,.bool false,.slice none 0 0,.slice none 0 0,.int .i64 0,.int .i64 0,.int .i64 0,.int .i64 0,.slice none 0 0,.slice none 0 0] 37)=u1 at HS1 hblk0 ⊢
         refine zqr 6 rfl (fun K1 hK=>?_)
         refine if_wanted (wanted_none rfl) ?_
         simp only [zga,zgb,zgc]
         go_simp
         refine (hr _ oa0 j oc0 (some ⟨gc,oc,none⟩) (k+1) cc0 _ (HP.out.called HS1.1.2.2)).mono ?_
         rintro e u2 ⟨kk,kc1,he,hk,hB⟩
         simp only [HE.out.1,HE.out.2.1,HE.out.2.2.1,HE.out.2.2.2.1,HE.out.2.2.2.2] at he hk
         subst he
         have HT:=HS1.called hB
         refine hK.out _ _ HT (fun HS2=>?_)
         have HA3:Hid (KSL u2 w.heap.size kk kn K):=ksl_low2 hk HS1.1.2.2.size
         clear hK hr
         have HX:Hid (TK w #[.int .i64 hw,.int .i64 hh,.int .i64 8,.int .i64 hc',.bool lace,.slice ta tn tc,.slice ca cn cc,.int .i64 rw',.int .i64 rh,.int .i64 rc,.int .i64 rd,.slice sa sn sc,.slice ka kn kc] wr u0.heap.size #[.int .i64 0,.int .i64 0,.int .i64 0,.int .i64 0,.bool false,.slice none 0 0,.slice none 0 0,.int .i64 0,.int .i64 0,.int .i64 0,.int .i64 0,.slice none 0 0,.slice none 0 0] kk kn K u2):=⟨⟨HS2.1,hblk0.called hB,HA3.out,hX1⟩,HS2.2,hX2⟩
         clear hB HT hk hblk0 HS1 hX1 hX2 HA3 HS2
         obtain⟨x0,x1,x2,x3,x4,x5,x6,x7,x8,x9,x10,x11,x12⟩:=zqc HX.out.k.x
         have xf:∀ k,u2.frozen? ⟨u0.heap.size,k,none⟩=false:=unfrozen_of_block HX.out.k.x
         have xl:=block_lt HX.out.k.x
         have H4:=hid_of ((((((((((((((HX.out.set 0 (.int .i64 hw)).set 1 (.int .i64 hh)).set 2 (.int .i64 ((tblD (meaN p0):Nat):Int))).set 3 (.int .i64 3)).set 4 (.bool lace)).set 5 (.slice none 0 0)).set 6 (.slice (some ⟨gc,oc,none⟩) (k+1) cc0)).set 7 (.int .i64 hw)).set 8 (.int .i64 hh)).set 9 (.int .i64 3)).set 10 (.int .i64 ((tblD (meaN p0):Nat):Int))).set 11 (.slice oa0 j oc0)).set 12 (.slice kk kn kc1)))
         simp only [zsa,zsb,zsc] at H4
         refine zqr 8 rfl (fun K1 hK=>?_)
         refine if_wanted (wanted_none rfl) ?_
         simp only [zga,zgb,zgc]
         go_simp
         refine hK.out _ _ ⟨H4.out.k.m,H4.out.b⟩ (fun HS4=>?_)
         clear hK
         refine wpAnyH_done (by kernel_rfl) ?_ _
         clear HS4 HX xf xl HS0 x0 x1 x2 x3 x4 x5 x6 x7 x8 x9 x10 x11 x12
         generalize (((((((((((((u2.setCell ⟨u0.heap.size,0,none⟩ (.int .i64 hw)).setCell ⟨u0.heap.size,1,none⟩ (.int .i64 hh)).setCell ⟨u0.heap.size,2,none⟩ (.int .i64 ((tblD (meaN p0):Nat):Int))).setCell ⟨u0.heap.size,3,none⟩ (.int .i64 3)).setCell ⟨u0.heap.size,4,none⟩ (.bool lace)).setCell ⟨u0.heap.size,5,none⟩ (.slice none 0 0)).setCell ⟨u0.heap.size,6,none⟩ (.slice (some ⟨gc,oc,none⟩) (k+1) cc0)).setCell ⟨u0.heap.size,7,none⟩ (.int .i64 hw)).setCell ⟨u0.heap.size,8,none⟩ (.int .i64 hh)).setCell ⟨u0.heap.size,9,none⟩ (.int .i64 3)).setCell ⟨u0.heap.size,10,none⟩ (.int .i64 ((tblD (meaN p0):Nat):Int))).setCell ⟨u0.heap.size,11,none⟩ (.slice oa0 j oc0)).setCell ⟨u0.heap.size,12,none⟩ (.slice kk kn kc1))=w4 at H4 ⊢
         generalize u0.heap.size=X at H4 ⊢
         obtain⟨_,_,_,_,he,hT1,hT2,_⟩:=tof_end HS.out.2.1 HR.out
         simp only [Ending.returned.injEq,Value.tuple.injEq,Array.mk.injEq,List.cons.injEq,Value.slice.injEq,and_true] at he
         obtain⟨⟨rfl,-,rfl⟩,rfl,-,rfl⟩:=he
         have hP3:SL wr w.heap.size oa0 j oc0 (fun i=>(plc (pq p0) i:Int)):=(sl_of_num HS.out.2.2 (plcL_length _ _).symm).congr fun i hi=>plcL_get _ _ _ hi
         have H5:Hid (WX w #[.int .i64 hw,.int .i64 hh,.int .i64 8,.int .i64 hc',.bool lace,.slice ta tn tc,.slice ca cn cc,.int .i64 rw',.int .i64 rh,.int .i64 rc,.int .i64 rd,.slice sa sn sc,.slice ka kn kc] X #[.int .i64 hw,.int .i64 hh,.int .i64 ((tblD (meaN p0):Nat):Int),.int .i64 3,.bool lace,.slice none 0 0,.slice (some ⟨gc,oc,none⟩) (k+1) cc0,.int .i64 hw,.int .i64 hh,.int .i64 3,.int .i64 ((tblD (meaN p0):Nat):Int),.slice oa0 j oc0,.slice kk kn kc1] (tblP p0) ⟨some ⟨gt,ot,none⟩,tc0,some ⟨gc,oc,none⟩,cc0,oa0,oc0,kk,kc1⟩ w4):=⟨⟨H4.out.k.m,HMk.out _ _ _ _ _ _ _ _ _ (hT1.called H4.out.b) (hT2.called H4.out.b) (hP3.called H4.out.b) (by rw [HE.out.1,HE.out.2.1]; exact H4.out.k.k) (.inr (.inr HAP.out)) HOM.out⟩,H4.out.k.x,H4.out.k.lt⟩
         rw[HR.out] at HY
         clear hT1 hT2 hP3 H4 HMk HS HAP HOM HR HCN hcc1 hk1 hk2 hk3 hk4 hn1 hn2
         obtain⟨x0,x1,x2,x3,x4,x5,x6,x7,x8,x9,x10,x11,x12⟩:=zqc H5.out.x
         have xf:∀ k,w4.frozen? ⟨X,k,none⟩=false:=unfrozen_of_block H5.out.x
         have xl:=block_lt H5.out.x
         have n0:¬ X=w.heap.size:=by have:=H5.out.lt; omega
         have n1:¬ X=w.heap.size+1:=by have:=H5.out.lt; omega
         have n2:¬ w.heap.size=X:=by have:=H5.out.lt; omega
         have n3:¬ w.heap.size+1=X:=by have:=H5.out.lt; omega
         obtain⟨⟨z0,z1,z2,z3,z4,z5,z6,z7,z8,z9,z10,z11,z12,y0,y1,y2,y3,y4,y5,y6,y7,y8,y9,y10,y11,y12⟩,yf,yl⟩:=H5.out.p.m.cells
         go_wp2_with fail
         refine bodyPost_ret (v:=.tuple #[.agg #[.int .i64 hw,.int .i64 hh,.int .i64 ((tblD (meaN p0):Nat):Int),.int .i64 3,.bool lace,.slice (some ⟨gt,ot,none⟩) (meaN p0) tc0,.slice (some ⟨gc,oc,none⟩) (k+1) cc0,.int .i64 hw,.int .i64 hh,.int .i64 3,.int .i64 ((tblD (meaN p0):Nat):Int),.slice oa0 j oc0,.slice kk kn kc1],.bool true]) ?_ rfl (HY.out _ (some ⟨gt,ot,none⟩) (some ⟨gc,oc,none⟩) oa0 kk tc0 cc0 oc0 kc1 ?_ ?_)
         ·simp[results,Tryz.results17,go_sem, *]
         ·exact ((H5.out.set 5 _).p.stored _ _ _ _ _ _ _ _ _ _ _ _ _ ).1
         ·exact ((H5.out.set 5 _).p.stored _ _ _ _ _ _ _ _ _ _ _ _ _ ).2
set_option maxRecDepth 100000 in
set_option maxHeartbeats 6400000 in
theorem specTbl_no (p:Pic) (q:PicA) (w:World) (hP:PngIn w p q) (hZ:PngSz p) (hno:¬ TblM p):
  Calls Tryz.prog 17 #[pngV p q] w (LessPost (TblC p) (tblP p) w):=by
 have hmay:=fun W h=>specMayQ p q 2 6 W h hZ
 have HNo:Hid (∀ W,Below w.heap.size w W→LessPost (TblC p) (tblP p) w (.returned (.tuple #[.agg #[.int .i64 0,.int .i64 0,.int .i64 0,.int .i64 0,.bool false,.slice none 0 0,.slice none 0 0,.int .i64 0,.int .i64 0,.int .i64 0,.int .i64 0,.slice none 0 0,.slice none 0 0],.bool false])) W):=fun W b=>.inl ⟨fun h=>hno h.1,rfl,b⟩
 have HNN:Hid (MayR p∧(p.hc=2∨p.hc=6)→¬ p.hd=8):=fun h k=>hno ⟨h.1,h.2,k⟩
 have HP:=hid_of hP
 clear hP hZ hno
 obtain⟨p0,hp0⟩:∃ p0,p0=p:=⟨_,rfl⟩
 rw[← hp0] at HNN
 obtain⟨hw,hh,hd,hc',lace,tn,T,cn,C,rw',rh,rc,rd,sn,S,kn,K⟩:=p
 obtain⟨ta,tc,ca,cc,sa,sc,ka,kc⟩:=q
 have hd0:p0.hd=hd:=by rw [hp0]
 have HD0:=hid_of hd0
 clear hd0
 simp only [pngV] at hmay HNo ⊢
 rw[← hp0] at HP HNo hmay ⊢
 clear hp0
 have H0:Hid (MoP w #[.int .i64 hw,.int .i64 hh,.int .i64 hd,.int .i64 hc',.bool lace,.slice ta tn tc,.slice ca cn cc,.int .i64 rw',.int .i64 rh,.int .i64 rc,.int .i64 rd,.slice sa sn sc,.slice ka kn kc] ((w.alloc (.cells #[.int .i64 hw,.int .i64 hh,.int .i64 hd,.int .i64 hc',.bool lace,.slice ta tn tc,.slice ca cn cc,.int .i64 rw',.int .i64 rh,.int .i64 rc,.int .i64 rd,.slice sa sn sc,.slice ka kn kc] 37)).alloc (.cells #[.int .i64 0,.int .i64 0,.int .i64 0,.int .i64 0,.bool false,.slice none 0 0,.slice none 0 0,.int .i64 0,.int .i64 0,.int .i64 0,.int .i64 0,.slice none 0 0,.slice none 0 0] 37))):=MoP.start w _ _ rfl
 go_enter Tryz.func17,Tryz.ntmps17
 go_wp2_with fail
 refine (hmay _ (HP.out.called H0.out.2.2)).mono ?_
 rintro e w1 ⟨b,rfl,hb,hB⟩
 have H1:=hid_of (H0.out.called hB)
 have HB:=hid_of hb
 clear hB hb H0 hmay
 cases b
 ·obtain⟨⟨z0,z1,z2,z3,z4,z5,z6,z7,z8,z9,z10,z11,z12,y0,y1,y2,y3,y4,y5,y6,y7,y8,y9,y10,y11,y12⟩,yf,yl⟩:=H1.out.cells
  go_wp2_with fail
  refine bodyPost_ret (v:=.tuple #[.agg #[.int .i64 0,.int .i64 0,.int .i64 0,.int .i64 0,.bool false,.slice none 0 0,.slice none 0 0,.int .i64 0,.int .i64 0,.int .i64 0,.int .i64 0,.slice none 0 0,.slice none 0 0],.bool false]) ?_ rfl (HNo.out _ ?_)
  ·simp[results,Tryz.results17,go_sem, *]
  ·exact H1.out.stored _ _ _ _ _ _ _ _ _ _ _ _ _ 
 have n8:(hd != 8)=true:=by
  have h:=HNN.out (HB.out.mp rfl)
  rw[HD0.out] at h
  simpa using h
 clear HNN HB HD0
 have lm:=block_lt H1.out.1
 obtain⟨m0,m1,m2,m3,m4,m5,m6,m7,m8,m9,m10,m11,m12⟩:=zqc H1.out.1
 obtain⟨⟨z0,z1,z2,z3,z4,z5,z6,z7,z8,z9,z10,z11,z12,y0,y1,y2,y3,y4,y5,y6,y7,y8,y9,y10,y11,y12⟩,yf,yl⟩:=H1.out.cells
 go_wp2_with fail
 refine bodyPost_ret (v:=.tuple #[.agg #[.int .i64 0,.int .i64 0,.int .i64 0,.int .i64 0,.bool false,.slice none 0 0,.slice none 0 0,.int .i64 0,.int .i64 0,.int .i64 0,.int .i64 0,.slice none 0 0,.slice none 0 0],.bool false]) ?_ rfl (HNo.out _ ?_)
 ·simp[results,Tryz.results17,go_sem, *]
 ·exact H1.out.stored _ _ _ _ _ _ _ _ _ _ _ _ _ 
end Go.Proofs.YtkpbfmdnjnohlaaGreat
