/-
  Texts of the proof, put together.
-/
import Derived.Test.YtkpbfmdnjnohlaaGreatCk31
import Derived.Test.YtkpbfmdnjnohlaaGreatCk38
import Derived.Shelf.Pu.Clone
namespace Go.Proofs.YtkpbfmdnjnohlaaGreat
section
open Go.RowKit Go.Joins OutMath PutMath RastMath HeadMath ChunkMath
def B2 (w:World) (A:Array Value) (u:World):Prop:=BoxAt u w.heap.size A∧Below w.heap.size w u
theorem B2.start (w:World) (A:Array Value):B2 w A (w.alloc (.cells A 37)):=⟨heap_alloc_new w _,bstart w _⟩
theorem B2.called {w u u':World} {A:Array Value} (h:B2 w A u) (hb:Below u.heap.size u u'):B2 w A u':=⟨h.1.called hb,bnext h.2 hb⟩
def MayQPost (p:Pic) (x y:Int) (w:World) (e:Ending) (w':World):Prop:=∃ b,e=.returned (.bool b)∧(b=true↔MayR p∧(p.hc=x∨p.hc=y))∧Below w.heap.size w w'
set_option maxRecDepth 100000 in
set_option maxHeartbeats 1600000 in
theorem specMayQ (p:Pic) (q:PicA) (x y:Int) (w:World) (hP:PngIn w p q) (hZ:PngSz p):
  Calls Tryz.prog 27 #[pngV p q,.int .i64 x,.int .i64 y] w (MayQPost p x y w):=by
 have hok:=fun W h=>specPngOk p q W h hZ
 have hto:=fun W (h:PngIn W p q)=>specTouchy p q W h.k hZ.k
 have HTo:Hid (MayR p↔PngR p∧¬ TouchyR p.kn p.K):=Iff.rfl
 have HNo:Hid (¬ (MayR p∧(p.hc=x∨p.hc=y))→∀ W,Below w.heap.size w W→MayQPost p x y w (.returned (.bool false)) W):=fun h W b=>⟨false,rfl,⟨fun e=>(by cases e),fun k=>absurd k h⟩,b⟩
 have HYes:Hid ((MayR p∧(p.hc=x∨p.hc=y))→∀ W,Below w.heap.size w W→MayQPost p x y w (.returned (.bool true)) W):=fun h W b=>⟨true,rfl,⟨fun _=>h,fun _=>rfl⟩,b⟩
 have HP:=hid_of hP
 clear hP hZ
 obtain⟨p0,hp0⟩:∃ p0,p0=p:=⟨_,rfl⟩
 obtain⟨hw,hh,hd,hc',lace,tn,T,cn,C,rw',rh,rc,rd,sn,S,kn,K⟩:=p
 obtain⟨ta,tc,ca,cc,sa,sc,ka,kc⟩:=q
 simp only [pngV] at hok hto HTo HNo HYes ⊢
 rw[← hp0] at hok hto HP HTo HNo HYes ⊢
 clear hp0
 have H0:Hid (B2 w #[.int .i64 hw,.int .i64 hh,.int .i64 hd,.int .i64 hc',.bool lace,.slice ta tn tc,.slice ca cn cc,.int .i64 rw',.int .i64 rh,.int .i64 rc,.int .i64 rd,.slice sa sn sc,.slice ka kn kc] (w.alloc (.cells #[.int .i64 hw,.int .i64 hh,.int .i64 hd,.int .i64 hc',.bool lace,.slice ta tn tc,.slice ca cn cc,.int .i64 rw',.int .i64 rh,.int .i64 rc,.int .i64 rd,.slice sa sn sc,.slice ka kn kc] 37))):=B2.start w _
 go_enter Tryz.func27,Tryz.ntmps27
 go_wp2_with fail
 refine (hok _ (HP.out.called H0.out.2)).mono ?_
 rintro e w1 ⟨b,rfl,hb,hB⟩
 have H1:=hid_of (H0.out.called hB)
 have HB:=hid_of hb
 clear hB hb H0 hok
 cases b
 ·have HN:=hid_of (HNo.out fun h=>by have:=HB.out.mpr (HTo.out.mp h.1).1; cases this)
  clear hto HYes
  go_wp2_with fail
  go_ret
  exact HN.out _ H1.out.2
 have HR:=hid_of (HB.out.mp rfl)
 clear HB
 have la:=block_lt H1.out.1
 have a0:=(cell_of_block H1.out.1 0).trans rfl
 have a1:=(cell_of_block H1.out.1 1).trans rfl
 have a2:=(cell_of_block H1.out.1 2).trans rfl
 have a3:=(cell_of_block H1.out.1 3).trans rfl
 have a4:=(cell_of_block H1.out.1 4).trans rfl
 have a5:=(cell_of_block H1.out.1 5).trans rfl
 have a6:=(cell_of_block H1.out.1 6).trans rfl
 have a7:=(cell_of_block H1.out.1 7).trans rfl
 have a8:=(cell_of_block H1.out.1 8).trans rfl
 have a9:=(cell_of_block H1.out.1 9).trans rfl
 have a10:=(cell_of_block H1.out.1 10).trans rfl
 have a11:=(cell_of_block H1.out.1 11).trans rfl
 have a12:=(cell_of_block H1.out.1 12).trans rfl
 go_wp2_with fail
 clear la a0 a1 a2 a3 a4 a5 a6 a7 a8 a9 a10 a11 a12
 refine (hto _ (HP.out.called H1.out.2)).mono ?_
 rintro e w2 ⟨t,rfl,ht,hB⟩
 have H2:=hid_of (H1.out.called hB)
 have HT:=hid_of ht
 clear hB ht H1 hto
 cases t
 rotate_left
 ·have HN:=hid_of (HNo.out fun h=>(HTo.out.mp h.1).2 (HT.out.mp rfl))
  clear HYes
  go_wp2_with fail
  go_ret
  exact HN.out _ H2.out.2
 have HM:Hid (MayR p0):=HTo.out.mpr ⟨HR.out,fun h=>by have:=HT.out.mpr h; cases this⟩
 clear HT HTo HR
 have la:=block_lt H2.out.1
 have a0:=(cell_of_block H2.out.1 0).trans rfl
 have a1:=(cell_of_block H2.out.1 1).trans rfl
 have a2:=(cell_of_block H2.out.1 2).trans rfl
 have a3:=(cell_of_block H2.out.1 3).trans rfl
 have a4:=(cell_of_block H2.out.1 4).trans rfl
 have a5:=(cell_of_block H2.out.1 5).trans rfl
 have a6:=(cell_of_block H2.out.1 6).trans rfl
 have a7:=(cell_of_block H2.out.1 7).trans rfl
 have a8:=(cell_of_block H2.out.1 8).trans rfl
 have a9:=(cell_of_block H2.out.1 9).trans rfl
 have a10:=(cell_of_block H2.out.1 10).trans rfl
 have a11:=(cell_of_block H2.out.1 11).trans rfl
 have a12:=(cell_of_block H2.out.1 12).trans rfl
 by_cases hx:hc'=x
 ·have dx:(hc' == x)=true:=by simpa using hx
  have HF:=hid_of (HYes.out ⟨HM.out,.inl hx⟩)
  clear hx HNo HYes
  go_wp2_with fail
  go_ret
  exact HF.out _ H2.out.2
 have dx:(hc' == x)=false:=by simpa using hx
 by_cases hy:hc'=y
 ·have dy:(hc' == y)=true:=by simpa using hy
  have HF:=hid_of (HYes.out ⟨HM.out,.inr hy⟩)
  clear hx hy HNo HYes
  go_wp2_with fail
  go_ret
  exact HF.out _ H2.out.2
 have dy:(hc' == y)=false:=by simpa using hy
 have HF:=hid_of (HNo.out fun h=>h.2.elim hx hy)
 clear hx hy HNo HYes
 go_wp2_with fail
 go_ret
 exact HF.out _ H2.out.2
end
section
open Go.RowKit Go.Joins
theorem info_int:(Tryz.prog.info? 3).map (fun i=>(i.zero,i.size,i.bytes))=some (some (.int .i64 0),1,8):=by kernel_rfl
def ivals (l:List Int):List Value:=l.map fun x=>Value.int .i64 x
theorem ivals_length (l:List Int):(ivals l).length=l.length:=by simp [ivals]
theorem ivals_app (xs ys:List Int):ivals (xs ++ ys)=ivals xs ++ ivals ys:=by simp [ivals]
theorem ivals_get (l:List Int) (i:Nat) (h:i < l.length):(ivals l)[i]?=some (.int .i64 (l.getD i 0)):=by
 unfold ivals
 rw[List.getElem?_map,List.getElem?_eq_getElem h,List.getD_eq_getElem?_getD,List.getElem?_eq_getElem h]
 rfl
theorem ivals_one (l:List Int):∀ u∈ivals l,u.oneCell'=true:=by
 intro u hu
 obtain⟨x,_,rfl⟩:=List.mem_map.mp hu
 rfl
def NumRow (w:World) (S:Nat) (v:Value) (l:List Int):Prop:=w.ownsRow S 3 1 v l.length (ivals l)
theorem NumRow.empty (w:World) (S:Nat) (h:S≤w.heap.size):NumRow (w.alloc (.cells #[] 3)) S (.slice (some ⟨w.heap.size,0,none⟩) 0 0) []:=
 ⟨rfl,.inr ⟨w.heap.size,0,#[],rfl,h,heap_alloc_new w _,Nat.le_refl _,Nat.zero_le _,rfl,rfl⟩⟩
theorem NumRow.form {w:World} {S:Nat} {v:Value} {l:List Int} (h:NumRow w S v l):∃ a c,v=.slice a l.length c∧(a=none→c=0)∧l.length≤c∧Came w a l.length (fun i=>l.getD i 0)∧∀ ad,a=some ad→∀ j u,(ivals l)[j]?=some u→w.cell? (ad.add j)=some u:=by
 rcases h.2 with ⟨rfl,h0⟩ | ⟨g,cap,cur,rfl,hb,hg,hc,hm,hs,ht⟩
 ·exact⟨none,0,by rw [h0],fun _=>rfl,by omega,.inl h0,fun ad e=>by cases e⟩
 ·refine⟨_,cap,rfl,(fun e=>by cases e),hc,.inr ⟨g,0,rfl,block_lt hg,fun j hj=>?_⟩,fun ad e j u hu=>?_⟩
  ·rw[Nat.zero_add,h.cellAt j (by omega)]
   exact ivals_get l j hj
  ·cases e
   have hj:j < l.length:=by
    rcases Nat.lt_or_ge j l.length with k | k
    ·exact k
    ·rw[List.getElem?_eq_none (by rw [ivals_length]; exact k)] at hu; cases hu
   rw[Addr.add_lit,Nat.zero_add,h.cellAt j (by omega)]
   exact hu
theorem NumRow.called {w w':World} {S:Nat} {v:Value} {l:List Int} (h:NumRow w S v l) (hb:Below w.heap.size w w'):NumRow w' S v l:=by
 refine⟨h.1,?_⟩
 rcases h.2 with h | ⟨g,cap,cur,rfl,h1,h2,h3⟩
 ·exact .inl h
 ·exact .inr ⟨g,cap,cur,rfl,h1,(hb.block g (block_lt h2)).trans h2,h3⟩
end
section
open Go.RowKit Go.Joins
theorem nums_append1 {w:World} {S:Nat} {v:Value} {xs:List Int} {ops:Array Oper} {rest:List Oper} {o:Oper} {a:Act} {Q:Exit→Act→World→Prop} (hgd:o.guard=none) (s x:Operand)
  (ho:o.op=.call { callee:=.builtin .append,args:=#[s,x],argTypes:=#[25,25] }) (hs:a.eval s=v) (h:NumRow w S v xs) (g c:Nat) (y:Int) (hx:a.eval x=.slice (some ⟨g,0,none⟩) 1 c) (hy:w.cell? ⟨g,0,none⟩=some (.int .i64 y))
  (h63:xs.length≤100000) (hS:S≤w.heap.size)
  (hK:∀ v' w',NumRow w' S v' (xs ++ [y])→w.grownBy w' v.ownBlock→(v'.ownBlock=v.ownBlock∨v'.ownBlock=some w.heap.size)→wpList Tryz.prog ops Q rest (a.put o.dst v') w'):wpList Tryz.prog ops Q (o :: rest) a w:=by
 obtain⟨i0,hi0,hz0,hz1,hz2⟩:=info_parts info_int
 refine wpList_append_own_at w hgd s x _ ho S 3 i0 _ 1 8 Tryz.underlying25 hi0 hz0 hz1 hz2 rfl (by omega) v _ _ hs h ⟨g,0,none⟩ 1 c (ivals [y]) hx rfl (fun j u hu=>?_) (ivals_one _) (by unfold maxLen; omega) (by omega) hS ?_
 ·cases j with
  | zero=>
   simp[ivals] at hu
   rw[← hu]
   exact hy
  | succ j=>simp [ivals] at hu
 ·intro v' w' hown hg _ hk
  refine hK v' w' ?_ hg hk
  show w'.ownsRow S 3 1 v' (xs ++ [y]).length (ivals (xs ++ [y]))
  rw[List.length_append,ivals_app]
  exact hown
end
section
open Go.RowKit Go.Joins
theorem sl_of_num {w:World} {S:Nat} {a:Option Addr} {n c:Nat} {O:List Int} (h:NumRow w S (.slice a n c) O) (hn:n=O.length):SL w S a n c (fun j=>O.getD j 0):=by
 rcases Nat.eq_zero_or_pos n with h0 | h0
 ·exact .inl h0
 ·obtain⟨g,_,ho⟩:=own_of_ownsRow h (by omega)
  obtain⟨cap,e⟩:=ho.form
  obtain⟨e1,e2,e3⟩:=Value.slice.inj e
  subst e1 e3
  have e4:fints (fun j=>O.getD j 0) n=ivals O:=by
   refine List.ext_getElem? (fun i=>?_)
   rcases Nat.lt_or_ge i O.length with q | q
   ·rw[ivals_get O i q,List.getElem?_eq_getElem (by rw [fints_length]; omega),fints_get]
   ·rw[List.getElem?_eq_none (by rw [fints_length]; omega),List.getElem?_eq_none (by rw [ivals_length]; exact q)]
  refine .inr ⟨g,rfl,?_⟩
  unfold IOwn
  rw[e4]
  exact ho
end
section
open Go.RowKit Go.Joins
theorem SL.congr {w:World} {base:Nat} {a:Option Addr} {n c:Nat} {f g:Nat→Int} (h:SL w base a n c f) (e:∀ i,i < n→f i=g i):SL w base a n c g:=by
 rcases h with h | ⟨k,ea,ho⟩
 ·exact .inl h
 ·exact .inr ⟨k,ea,ho.congr e⟩
theorem NumRow.max {w:World} {S:Nat} {a:Option Addr} {n c:Nat} {l:List Int} (h:NumRow w S (.slice a n c) l):n≤c∧c≤maxLen:=by
 rcases h.2 with ⟨e,_⟩ | ⟨g,cap,cur,e,_,_,h1,h2,_⟩
 ·cases e; exact⟨Nat.le_refl _,by unfold maxLen; omega⟩
 ·cases e; exact⟨h1,h2⟩
end
section
open Go.RowKit Go.Joins
def renClone:Go.Shelf.Ren:=⟨fun _=>138,fun n=>match n with
 | 0=>0
 | 3=>3
 | 4=>4
 | 5=>5
 | 9=>9
 | 37=>120
 | _=>134,fun n=>n⟩
set_option maxRecDepth 100000 in
theorem clone_laid:LaysPu.n25 Tryz.prog renClone:=by
 constructor <;> first | kernel_rfl | exact fun w=>by kernel_rfl | exact fun w=>rfl
theorem implCloneLite (s:ByteArray) (w:World) (hs:s.size≤1048576):Calls Tryz.prog 138 #[.string s] w fun e w'=>e=.returned (.string s)∧Below w.heap.size w w':=AnyPu.stringslite_Clone clone_laid s w (by omega)
theorem implClone (s:ByteArray) (w:World) (hs:s.size≤1048576):Calls Tryz.prog 132 #[.string s] w fun e w'=>e=.returned (.string s)∧Below w.heap.size w w':=by
 go_enter Tryz.func132,Tryz.ntmps132
 go_wp2_with fail
 refine (implCloneLite s _ hs).mono ?_
 rintro e w1 ⟨rfl,hb⟩
 go_wp2_with fail
 go_ret
 exact⟨rfl,hb⟩
end
end Go.Proofs.YtkpbfmdnjnohlaaGreat
