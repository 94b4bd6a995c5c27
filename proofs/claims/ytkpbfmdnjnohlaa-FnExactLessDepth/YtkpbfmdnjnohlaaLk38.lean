/-
  Texts of the proof, put together.
-/
import Derived.Test.YtkpbfmdnjnohlaaLk01
import Derived.WalkLawsBesides
import Derived.Deep.LoopGhost
import Derived.Deep.AppendLies
import Derived.Laws.AppendOwnNone
import Derived.Shelf.Pu.Clone
namespace Go.Proofs.Ytkpbfmdnjnohlaa
section
open Go.RowKit Go.Joins
theorem info_int:(Try.prog.info? 3).map (fun i=>(i.zero,i.size,i.bytes))=some (some (.int .i64 0),1,8):=by kernel_rfl
def ivals (l:List Int):List Value:=l.map fun x=>Value.int .i64 x
theorem ivals_length (l:List Int):(ivals l).length=l.length:=by simp [ivals]
theorem ivals_app (xs ys:List Int):ivals (xs ++ ys)=ivals xs ++ ivals ys:=by simp [ivals]
theorem ivals_get (l:List Int) (i:Nat) (h:i < l.length):(ivals l)[i]?=some (.int .i64 (l.getD i 0)):=by
 unfold ivals
 rw[List.getElem?_map,List.getElem?_eq_getElem h,List.getD_eq_getElem?_getD,List.getElem?_eq_getElem h]
 rfl
theorem ivals_one (l:List Int):∀ u∈ivals l,u.oneCell'=true:=by
 intro u hu
 obtain⟨x,_,rfl⟩:=List.mem_map.mp hu
 rfl
def NumRow (w:World) (S:Nat) (v:Value) (l:List Int):Prop:=w.ownsRow S 3 1 v l.length (ivals l)
theorem NumRow.empty (w:World) (S:Nat) (h:S≤w.heap.size):NumRow (w.alloc (.cells #[] 3)) S (.slice (some ⟨w.heap.size,0,none⟩) 0 0) []:=
 ⟨rfl,.inr ⟨w.heap.size,0,#[],rfl,h,heap_alloc_new w _,Nat.le_refl _,Nat.zero_le _,rfl,rfl⟩⟩
theorem NumRow.form {w:World} {S:Nat} {v:Value} {l:List Int} (h:NumRow w S v l):∃ a c,v=.slice a l.length c∧(a=none→c=0)∧l.length≤c∧Came w a l.length (fun i=>l.getD i 0)∧∀ ad,a=some ad→∀ j u,(ivals l)[j]?=some u→w.cell? (ad.add j)=some u:=by
 rcases h.2 with ⟨rfl,h0⟩ | ⟨g,cap,cur,rfl,hb,hg,hc,hm,hs,ht⟩
 ·exact⟨none,0,by rw [h0],fun _=>rfl,by omega,.inl h0,fun ad e=>by cases e⟩
 ·refine⟨_,cap,rfl,(fun e=>by cases e),hc,.inr ⟨g,0,rfl,block_lt hg,fun j hj=>?_⟩,fun ad e j u hu=>?_⟩
  ·rw[Nat.zero_add,h.cellAt j (by omega)]
   exact ivals_get l j hj
  ·cases e
   have hj:j < l.length:=by
    rcases Nat.lt_or_ge j l.length with k | k
    ·exact k
    ·rw[List.getElem?_eq_none (by rw [ivals_length]; exact k)] at hu; cases hu
   rw[Addr.add_lit,Nat.zero_add,h.cellAt j (by omega)]
   exact hu
theorem NumRow.called {w w':World} {S:Nat} {v:Value} {l:List Int} (h:NumRow w S v l) (hb:Below w.heap.size w w'):NumRow w' S v l:=by
 refine⟨h.1,?_⟩
 rcases h.2 with h | ⟨g,cap,cur,rfl,h1,h2,h3⟩
 ·exact .inl h
 ·exact .inr ⟨g,cap,cur,rfl,h1,(hb.block g (block_lt h2)).trans h2,h3⟩
end
section
open Go.RowKit Go.Joins
theorem nums_append1 {w:World} {S:Nat} {v:Value} {xs:List Int} {ops:Array Oper} {rest:List Oper} {o:Oper} {a:Act} {Q:Exit→Act→World→Prop} (hgd:o.guard=none) (s x:Operand)
  (ho:o.op=.call { callee:=.builtin .append,args:=#[s,x],argTypes:=#[25,25] }) (hs:a.eval s=v) (h:NumRow w S v xs) (g c:Nat) (y:Int) (hx:a.eval x=.slice (some ⟨g,0,none⟩) 1 c) (hy:w.cell? ⟨g,0,none⟩=some (.int .i64 y))
  (h63:xs.length≤100000) (hS:S≤w.heap.size)
  (hK:∀ v' w',NumRow w' S v' (xs ++ [y])→w.grownBy w' v.ownBlock→(v'.ownBlock=v.ownBlock∨v'.ownBlock=some w.heap.size)→wpList Try.prog ops Q rest (a.put o.dst v') w'):wpList Try.prog ops Q (o :: rest) a w:=by
 obtain⟨i0,hi0,hz0,hz1,hz2⟩:=info_parts info_int
 refine wpList_append_own_at w hgd s x _ ho S 3 i0 _ 1 8 Try.underlying25 hi0 hz0 hz1 hz2 rfl (by omega) v _ _ hs h ⟨g,0,none⟩ 1 c (ivals [y]) hx rfl (fun j u hu=>?_) (ivals_one _) (by unfold maxLen; omega) (by omega) hS ?_
 ·cases j with
  | zero=>
   simp[ivals] at hu
   rw[← hu]
   exact hy
  | succ j=>simp [ivals] at hu
 ·intro v' w' hown hg _ hk
  refine hK v' w' ?_ hg hk
  show w'.ownsRow S 3 1 v' (xs ++ [y]).length (ivals (xs ++ [y]))
  rw[List.length_append,ivals_app]
  exact hown
end
section
open Go.RowKit Go.Joins
theorem sl_of_num {w:World} {S:Nat} {a:Option Addr} {n c:Nat} {O:List Int} (h:NumRow w S (.slice a n c) O) (hn:n=O.length):SL w S a n c (fun j=>O.getD j 0):=by
 rcases Nat.eq_zero_or_pos n with h0 | h0
 ·exact .inl h0
 ·obtain⟨g,_,ho⟩:=own_of_ownsRow h (by omega)
  obtain⟨cap,e⟩:=ho.form
  obtain⟨e1,e2,e3⟩:=Value.slice.inj e
  subst e1 e3
  have e4:fints (fun j=>O.getD j 0) n=ivals O:=by
   refine List.ext_getElem? (fun i=>?_)
   rcases Nat.lt_or_ge i O.length with q | q
   ·rw[ivals_get O i q,List.getElem?_eq_getElem (by rw [fints_length]; omega),fints_get]
   ·rw[List.getElem?_eq_none (by rw [fints_length]; omega),List.getElem?_eq_none (by rw [ivals_length]; exact q)]
  refine .inr ⟨g,rfl,?_⟩
  unfold IOwn
  rw[e4]
  exact ho
end
section
open Go.RowKit
def divL (f:Nat→Int) (b:Int) (n:Nat):List Int:=(List.range n).map fun i=>f i / b
theorem divL_length (f:Nat→Int) (b:Int) (n:Nat):(divL f b n).length=n:=by simp [divL]
theorem divL_succ (f:Nat→Int) (b:Int) (n:Nat):divL f b (n+1)=divL f b n ++ [f n / b]:=by simp [divL,List.range_succ]
theorem divL_get (f:Nat→Int) (b:Int) (n j:Nat) (h:j < n):(divL f b n).getD j 0=f j / b:=by
 rw[List.getD_eq_getElem?_getD,List.getElem?_eq_getElem (by rw [divL_length]; exact h)]
 simp[divL]
end
section
open Go.RowKit Go.Joins
def DivPost (n:Nat) (f:Nat→Int) (b:Int) (w:World) (e:Ending) (w':World):Prop:=
 ∃ ok a m c,e=.returned (.tuple #[.slice a m c,.bool ok])∧(ok=true↔∀ i,i < n→f i % b=0)∧(ok=true→m=n∧SL w' w.heap.size a n c (fun j=>f j / b)∧n≤c∧c≤maxLen)∧Below w.heap.size w w'
theorem SL.congr {w:World} {base:Nat} {a:Option Addr} {n c:Nat} {f g:Nat→Int} (h:SL w base a n c f) (e:∀ i,i < n→f i=g i):SL w base a n c g:=by
 rcases h with h | ⟨k,ea,ho⟩
 ·exact .inl h
 ·exact .inr ⟨k,ea,ho.congr e⟩
theorem NumRow.max {w:World} {S:Nat} {a:Option Addr} {n c:Nat} {l:List Int} (h:NumRow w S (.slice a n c) l):n≤c∧c≤maxLen:=by
 rcases h.2 with ⟨e,_⟩ | ⟨g,cap,cur,e,_,_,h1,h2,_⟩
 ·cases e; exact⟨Nat.le_refl _,by unfold maxLen; omega⟩
 ·cases e; exact⟨h1,h2⟩
def DivSt (w w':World) (v:Value) (f:Nat→Int) (b:Int) (j:Nat):Prop:=NumRow w' w.heap.size v (divL f b j)∧Below w.heap.size w w'∧∀ i,i < j→f i % b=0
set_option maxRecDepth 100000 in
set_option maxHeartbeats 1600000 in
theorem specDivided (a:Option Addr) (n c:Nat) (f:Nat→Int) (b:Nat) (w:World) (hC:Came w a n f) (hn:n≤65536) (hf:∀ i,i < n→0≤f i∧f i≤65535) (hb:1≤b∧b≤257):
  Calls Try.prog 50 #[.slice a n c,.int .i64 (b:Int)] w (DivPost n f b w):=by
 have H0:Hid (DivSt w (w.alloc (.cells #[] 3)) (.slice (some ⟨w.heap.size,0,none⟩) 0 0) f b 0):=⟨NumRow.empty w _ (Nat.le_refl _),bstart w _,fun i hi=>absurd hi (Nat.not_lt_zero i)⟩
 have HC:=hid_of hC
 have HF:=hid_of hf
 clear hC hf
 go_enter Try.func50,Try.ntmps50
 go_wp2_with fail
 go_loopg [6,7] (n+1) (fun gk v z w'=>∃ j:Nat,j≤n∧z=.int .i64 j∧n - j≤gk∧Hid (DivSt w w' v f b j))
 case atStart=>exact⟨0,Nat.zero_le _,rfl,by omega,H0⟩
 case round=>
  clear H0
  obtain⟨j,hj,rfl,hk,hS⟩:=hrel
  by_cases hlt:j < n
  ·rcases HC.out with h0 | ⟨g,off,rfl,hg,hc⟩
   ·omega
   ·have c0:=(hS.out.2.1.cell (p:=⟨g,off+j,none⟩) hg).trans (hc j hlt)
    have hl2:g < wr.heap.size:=Nat.lt_of_lt_of_le hg hS.out.2.1.size
    have hv:=HF.out j hlt
    have HNo:Hid (¬ f j % b=0→¬ ∀ i,i < n→f i % b=0):=fun h k=>h (k j hlt)
    have HYes:Hid (f j % b=0→∀ i,i < j+1→f i % b=0):=fun h i hi=>by
     by_cases e:i=j
     ·rw[e]; exact h
     ·exact hS.out.2.2 i (by omega)
    clear hc
    by_cases hd:f j % b=0
    ·have HK:=hid_of (HYes.out hd)
     have HNR:=hid_of hS.out.1
     have HB:=hid_of hS.out.2.1
     clear HNo HYes hS
     go_wp2_with (at_builtin; refine nums_append1 (S:=w.heap.size) (xs:=divL f b j) rfl _ _ rfl rfl (HNR.out.called (bstart _ _)) wr.heap.size 1 (f j / b) rfl ((cell_of_block (heap_alloc_new wr (.cells #[.int .i64 (f j / b)] 3)) 0).trans rfl) (by rw [divL_length]; omega) (by have:=HB.out.size; simp; omega) ?_)
     intro v1 w1 y1 y2 _
     have HS1:Hid (DivSt w w1 v1 f b (j+1)):=⟨by rw [divL_succ]; exact y1,(bal HB.out _).grown y2 (by have:=HB.out.size; simp; omega) (fun q hq=>(HNR.out.lt q hq).1),HK.out⟩
     clear y1 y2 HK HNR HB
     go_wp2_with fail
     go_roundg (n - (j+1))
     case measure=>omega
     case rel=>exact⟨j+1,by omega,by go_num,Nat.le_refl _,HS1⟩
    ·have HN:=hid_of (HNo.out hd)
     have HB:=hid_of (bal hS.out.2.1 (.cells #[] 3))
     clear HNo HYes hS
     go_wp2_with fail
     go_ret2
     exact⟨false,_,_,_,rfl,⟨fun e=>(by cases e),fun k=>absurd k HN.out⟩,fun e=>(by cases e),HB.out⟩
  ·obtain rfl:j=n:=by omega
   obtain⟨a',c',e',hcap,_⟩:=hS.out.1.form
   have HR:Hid (∀ i,i < j→f i % b=0):=hid_of hS.out.2.2
   have HB:=hid_of hS.out.2.1
   have HL:Hid (SL wr w.heap.size a' j c' (fun i=>f i / b)∧j≤c'∧c'≤maxLen):=by
    have q:=hS.out.1
    rw[e',divL_length] at q
    exact⟨(sl_of_num q (divL_length f b j).symm).congr fun i hi=>divL_get f b j i hi,q.max⟩
   clear hS
   go_wp2_with fail
   go_ret2
   rw[e',divL_length]
   exact⟨true,_,_,_,rfl,⟨fun _=>HR.out,fun _=>rfl⟩,fun _=>⟨rfl,HL.out.1,HL.out.2⟩,HB.out⟩
end
section
open Go.RowKit Go.Joins
def renClone:Go.Shelf.Ren:=⟨fun _=>113,fun n=>match n with
 | 0=>0
 | 3=>3
 | 4=>4
 | 5=>5
 | 9=>9
 | 37=>114
 | _=>123,fun n=>n⟩
set_option maxRecDepth 100000 in
theorem clone_laid:LaysPu.n25 Try.prog renClone:=by
 constructor <;> first | kernel_rfl | exact fun w=>by kernel_rfl | exact fun w=>rfl
theorem implCloneLite (s:ByteArray) (w:World) (hs:s.size≤1048576):Calls Try.prog 113 #[.string s] w fun e w'=>e=.returned (.string s)∧Below w.heap.size w w':=AnyPu.stringslite_Clone clone_laid s w (by omega)
theorem implClone (s:ByteArray) (w:World) (hs:s.size≤1048576):Calls Try.prog 107 #[.string s] w fun e w'=>e=.returned (.string s)∧Below w.heap.size w w':=by
 go_enter Try.func107,Try.ntmps107
 go_wp2_with fail
 refine (implCloneLite s _ hs).mono ?_
 rintro e w1 ⟨rfl,hb⟩
 go_wp2_with fail
 go_ret
 exact⟨rfl,hb⟩
end
end Go.Proofs.Ytkpbfmdnjnohlaa
