/-
  Texts of the proof, put together.
-/
import Derived.Test.YtkpbfmdnjnohlaaGreatRd03
import Derived.Shelf.Pu.Clone
import Derived.RangeFuncNested
import Derived.RangeFuncBound
import Derived.OwnWalkIn
import Derived.LoopNIn
import Derived.LoopIn
import Derived.Shelf.RegionOpen
namespace Go.Proofs.YtkpbfmdnjnohlaaGreat
section
open Go.RowKit Go.Joins
theorem info_int:(Tryz.prog.info? 3).map (fun i=>(i.zero,i.size,i.bytes))=some (some (.int .i64 0),1,8):=by kernel_rfl
def ivals (l:List Int):List Value:=l.map fun x=>Value.int .i64 x
theorem ivals_length (l:List Int):(ivals l).length=l.length:=by simp [ivals]
theorem ivals_app (xs ys:List Int):ivals (xs ++ ys)=ivals xs ++ ivals ys:=by simp [ivals]
theorem ivals_get (l:List Int) (i:Nat) (h:i < l.length):(ivals l)[i]?=some (.int .i64 (l.getD i 0)):=by
 unfold ivals
 rw[List.getElem?_map,List.getElem?_eq_getElem h,List.getD_eq_getElem?_getD,List.getElem?_eq_getElem h]
 rfl
theorem ivals_one (l:List Int):∀ u∈ivals l,u.oneCell'=true:=by
 intro u hu
 obtain⟨x,_,rfl⟩:=List.mem_map.mp hu
 rfl
def NumRow (w:World) (S:Nat) (v:Value) (l:List Int):Prop:=w.ownsRow S 3 1 v l.length (ivals l)
theorem NumRow.empty (w:World) (S:Nat) (h:S≤w.heap.size):NumRow (w.alloc (.cells #[] 3)) S (.slice (some ⟨w.heap.size,0,none⟩) 0 0) []:=
 ⟨rfl,.inr ⟨w.heap.size,0,#[],rfl,h,heap_alloc_new w _,Nat.le_refl _,Nat.zero_le _,rfl,rfl⟩⟩
theorem NumRow.form {w:World} {S:Nat} {v:Value} {l:List Int} (h:NumRow w S v l):∃ a c,v=.slice a l.length c∧(a=none→c=0)∧l.length≤c∧Came w a l.length (fun i=>l.getD i 0)∧∀ ad,a=some ad→∀ j u,(ivals l)[j]?=some u→w.cell? (ad.add j)=some u:=by
 rcases h.2 with ⟨rfl,h0⟩ | ⟨g,cap,cur,rfl,hb,hg,hc,hm,hs,ht⟩
 ·exact⟨none,0,by rw [h0],fun _=>rfl,by omega,.inl h0,fun ad e=>by cases e⟩
 ·refine⟨_,cap,rfl,(fun e=>by cases e),hc,.inr ⟨g,0,rfl,block_lt hg,fun j hj=>?_⟩,fun ad e j u hu=>?_⟩
  ·rw[Nat.zero_add,h.cellAt j (by omega)]
   exact ivals_get l j hj
  ·cases e
   have hj:j < l.length:=by
    rcases Nat.lt_or_ge j l.length with k | k
    ·exact k
    ·rw[List.getElem?_eq_none (by rw [ivals_length]; exact k)] at hu; cases hu
   rw[Addr.add_lit,Nat.zero_add,h.cellAt j (by omega)]
   exact hu
theorem NumRow.called {w w':World} {S:Nat} {v:Value} {l:List Int} (h:NumRow w S v l) (hb:Below w.heap.size w w'):NumRow w' S v l:=by
 refine⟨h.1,?_⟩
 rcases h.2 with h | ⟨g,cap,cur,rfl,h1,h2,h3⟩
 ·exact .inl h
 ·exact .inr ⟨g,cap,cur,rfl,h1,(hb.block g (block_lt h2)).trans h2,h3⟩
end
section
open Go.RowKit Go.Joins
theorem nums_append1 {w:World} {S:Nat} {v:Value} {xs:List Int} {ops:Array Oper} {rest:List Oper} {o:Oper} {a:Act} {Q:Exit→Act→World→Prop} (hgd:o.guard=none) (s x:Operand)
  (ho:o.op=.call { callee:=.builtin .append,args:=#[s,x],argTypes:=#[25,25] }) (hs:a.eval s=v) (h:NumRow w S v xs) (g c:Nat) (y:Int) (hx:a.eval x=.slice (some ⟨g,0,none⟩) 1 c) (hy:w.cell? ⟨g,0,none⟩=some (.int .i64 y))
  (h63:xs.length≤100000) (hS:S≤w.heap.size)
  (hK:∀ v' w',NumRow w' S v' (xs ++ [y])→w.grownBy w' v.ownBlock→(v'.ownBlock=v.ownBlock∨v'.ownBlock=some w.heap.size)→wpList Tryz.prog ops Q rest (a.put o.dst v') w'):wpList Tryz.prog ops Q (o :: rest) a w:=by
 obtain⟨i0,hi0,hz0,hz1,hz2⟩:=info_parts info_int
 refine wpList_append_own_at w hgd s x _ ho S 3 i0 _ 1 8 Tryz.underlying25 hi0 hz0 hz1 hz2 rfl (by omega) v _ _ hs h ⟨g,0,none⟩ 1 c (ivals [y]) hx rfl (fun j u hu=>?_) (ivals_one _) (by unfold maxLen; omega) (by omega) hS ?_
 ·cases j with
  | zero=>
   simp[ivals] at hu
   rw[← hu]
   exact hy
  | succ j=>simp [ivals] at hu
 ·intro v' w' hown hg _ hk
  refine hK v' w' ?_ hg hk
  show w'.ownsRow S 3 1 v' (xs ++ [y]).length (ivals (xs ++ [y]))
  rw[List.length_append,ivals_app]
  exact hown
end
section
open Go.RowKit Go.Joins
theorem sl_of_num {w:World} {S:Nat} {a:Option Addr} {n c:Nat} {O:List Int} (h:NumRow w S (.slice a n c) O) (hn:n=O.length):SL w S a n c (fun j=>O.getD j 0):=by
 rcases Nat.eq_zero_or_pos n with h0 | h0
 ·exact .inl h0
 ·obtain⟨g,_,ho⟩:=own_of_ownsRow h (by omega)
  obtain⟨cap,e⟩:=ho.form
  obtain⟨e1,e2,e3⟩:=Value.slice.inj e
  subst e1 e3
  have e4:fints (fun j=>O.getD j 0) n=ivals O:=by
   refine List.ext_getElem? (fun i=>?_)
   rcases Nat.lt_or_ge i O.length with q | q
   ·rw[ivals_get O i q,List.getElem?_eq_getElem (by rw [fints_length]; omega),fints_get]
   ·rw[List.getElem?_eq_none (by rw [fints_length]; omega),List.getElem?_eq_none (by rw [ivals_length]; exact q)]
  refine .inr ⟨g,rfl,?_⟩
  unfold IOwn
  rw[e4]
  exact ho
end
section
open Go.RowKit
def divL (f:Nat→Int) (b:Int) (n:Nat):List Int:=(List.range n).map fun i=>f i / b
theorem divL_length (f:Nat→Int) (b:Int) (n:Nat):(divL f b n).length=n:=by simp [divL]
theorem divL_succ (f:Nat→Int) (b:Int) (n:Nat):divL f b (n+1)=divL f b n ++ [f n / b]:=by simp [divL,List.range_succ]
theorem divL_get (f:Nat→Int) (b:Int) (n j:Nat) (h:j < n):(divL f b n).getD j 0=f j / b:=by
 rw[List.getD_eq_getElem?_getD,List.getElem?_eq_getElem (by rw [divL_length]; exact h)]
 simp[divL]
end
section
open Go.RowKit Go.Joins
def DivPost (n:Nat) (f:Nat→Int) (b:Int) (w:World) (e:Ending) (w':World):Prop:=
 ∃ ok a m c,e=.returned (.tuple #[.slice a m c,.bool ok])∧(ok=true↔∀ i,i < n→f i % b=0)∧(ok=true→m=n∧SL w' w.heap.size a n c (fun j=>f j / b)∧n≤c∧c≤maxLen)∧Below w.heap.size w w'
theorem SL.congr {w:World} {base:Nat} {a:Option Addr} {n c:Nat} {f g:Nat→Int} (h:SL w base a n c f) (e:∀ i,i < n→f i=g i):SL w base a n c g:=by
 rcases h with h | ⟨k,ea,ho⟩
 ·exact .inl h
 ·exact .inr ⟨k,ea,ho.congr e⟩
theorem NumRow.max {w:World} {S:Nat} {a:Option Addr} {n c:Nat} {l:List Int} (h:NumRow w S (.slice a n c) l):n≤c∧c≤maxLen:=by
 rcases h.2 with ⟨e,_⟩ | ⟨g,cap,cur,e,_,_,h1,h2,_⟩
 ·cases e; exact⟨Nat.le_refl _,by unfold maxLen; omega⟩
 ·cases e; exact⟨h1,h2⟩
def DivSt (w w':World) (v:Value) (f:Nat→Int) (b:Int) (j:Nat):Prop:=NumRow w' w.heap.size v (divL f b j)∧Below w.heap.size w w'∧∀ i,i < j→f i % b=0
set_option maxRecDepth 100000 in
set_option maxHeartbeats 1600000 in
theorem specDivided (a:Option Addr) (n c:Nat) (f:Nat→Int) (b:Nat) (w:World) (hC:Came w a n f) (hn:n≤65536) (hf:∀ i,i < n→0≤f i∧f i≤65535) (hb:1≤b∧b≤257):
  Calls Tryz.prog 60 #[.slice a n c,.int .i64 (b:Int)] w (DivPost n f b w):=by
 have H0:Hid (DivSt w (w.alloc (.cells #[] 3)) (.slice (some ⟨w.heap.size,0,none⟩) 0 0) f b 0):=⟨NumRow.empty w _ (Nat.le_refl _),bstart w _,fun i hi=>absurd hi (Nat.not_lt_zero i)⟩
 have HC:=hid_of hC
 have HF:=hid_of hf
 clear hC hf
 go_enter Tryz.func60,Tryz.ntmps60
 go_wp2_with fail
 go_loopg [6,7] (n+1) (fun gk v z w'=>∃ j:Nat,j≤n∧z=.int .i64 j∧n - j≤gk∧Hid (DivSt w w' v f b j))
 case atStart=>exact⟨0,Nat.zero_le _,rfl,by omega,H0⟩
 case round=>
  clear H0
  obtain⟨j,hj,rfl,hk,hS⟩:=hrel
  by_cases hlt:j < n
  ·rcases HC.out with h0 | ⟨g,off,rfl,hg,hc⟩
   ·omega
   ·have c0:=(hS.out.2.1.cell (p:=⟨g,off+j,none⟩) hg).trans (hc j hlt)
    have hl2:g < wr.heap.size:=Nat.lt_of_lt_of_le hg hS.out.2.1.size
    have hv:=HF.out j hlt
    have HNo:Hid (¬ f j % b=0→¬ ∀ i,i < n→f i % b=0):=fun h k=>h (k j hlt)
    have HYes:Hid (f j % b=0→∀ i,i < j+1→f i % b=0):=fun h i hi=>by
     by_cases e:i=j
     ·rw[e]; exact h
     ·exact hS.out.2.2 i (by omega)
    clear hc
    by_cases hd:f j % b=0
    ·have HK:=hid_of (HYes.out hd)
     have HNR:=hid_of hS.out.1
     have HB:=hid_of hS.out.2.1
     clear HNo HYes hS
     go_wp2_with (at_builtin; refine nums_append1 (S:=w.heap.size) (xs:=divL f b j) rfl _ _ rfl rfl (HNR.out.called (bstart _ _)) wr.heap.size 1 (f j / b) rfl ((cell_of_block (heap_alloc_new wr (.cells #[.int .i64 (f j / b)] 3)) 0).trans rfl) (by rw [divL_length]; omega) (by have:=HB.out.size; simp; omega) ?_)
     intro v1 w1 y1 y2 _
     have HS1:Hid (DivSt w w1 v1 f b (j+1)):=⟨by rw [divL_succ]; exact y1,(bal HB.out _).grown y2 (by have:=HB.out.size; simp; omega) (fun q hq=>(HNR.out.lt q hq).1),HK.out⟩
     clear y1 y2 HK HNR HB
     go_wp2_with fail
     go_roundg (n - (j+1))
     case measure=>omega
     case rel=>exact⟨j+1,by omega,by go_num,Nat.le_refl _,HS1⟩
    ·have HN:=hid_of (HNo.out hd)
     have HB:=hid_of (bal hS.out.2.1 (.cells #[] 3))
     clear HNo HYes hS
     go_wp2_with fail
     go_ret2
     exact⟨false,_,_,_,rfl,⟨fun e=>(by cases e),fun k=>absurd k HN.out⟩,fun e=>(by cases e),HB.out⟩
  ·obtain rfl:j=n:=by omega
   obtain⟨a',c',e',hcap,_⟩:=hS.out.1.form
   have HR:Hid (∀ i,i < j→f i % b=0):=hid_of hS.out.2.2
   have HB:=hid_of hS.out.2.1
   have HL:Hid (SL wr w.heap.size a' j c' (fun i=>f i / b)∧j≤c'∧c'≤maxLen):=by
    have q:=hS.out.1
    rw[e',divL_length] at q
    exact⟨(sl_of_num q (divL_length f b j).symm).congr fun i hi=>divL_get f b j i hi,q.max⟩
   clear hS
   go_wp2_with fail
   go_ret2
   rw[e',divL_length]
   exact⟨true,_,_,_,rfl,⟨fun _=>HR.out,fun _=>rfl⟩,fun _=>⟨rfl,HL.out.1,HL.out.2⟩,HB.out⟩
end
section
open Go.RowKit Go.Joins
def renClone:Go.Shelf.Ren:=⟨fun _=>138,fun n=>match n with
 | 0=>0
 | 3=>3
 | 4=>4
 | 5=>5
 | 9=>9
 | 37=>120
 | _=>134,fun n=>n⟩
set_option maxRecDepth 100000 in
theorem clone_laid:LaysPu.n25 Tryz.prog renClone:=by
 constructor <;> first | kernel_rfl | exact fun w=>by kernel_rfl | exact fun w=>rfl
theorem implCloneLite (s:ByteArray) (w:World) (hs:s.size≤1048576):Calls Tryz.prog 138 #[.string s] w fun e w'=>e=.returned (.string s)∧Below w.heap.size w w':=AnyPu.stringslite_Clone clone_laid s w (by omega)
theorem implClone (s:ByteArray) (w:World) (hs:s.size≤1048576):Calls Tryz.prog 132 #[.string s] w fun e w'=>e=.returned (.string s)∧Below w.heap.size w w':=by
 go_enter Tryz.func132,Tryz.ntmps132
 go_wp2_with fail
 refine (implCloneLite s _ hs).mono ?_
 rintro e w1 ⟨rfl,hb⟩
 go_wp2_with fail
 go_ret
 exact⟨rfl,hb⟩
end
section
open Go.RowKit Go.Joins RastMath
set_option maxHeartbeats 1600000 in
theorem hasShape_any (x0 x1 x2 x3 y0 y1 y2 y3:Int) (u v:Value) (w:World):
  Calls Tryz.prog 99 #[.agg #[.int .i64 x0,.int .i64 x1,.int .i64 x2,.int .i64 x3,u],.agg #[.int .i64 y0,.int .i64 y1,.int .i64 y2,.int .i64 y3,v]] w fun e w'=>e=.returned (.bool (decide (x0=y0∧x1=y1∧x2=y2∧x3=y3)))∧Below w.heap.size w w':=by
 have HB:=hid_of (bal (bstart w (.cells #[.int .i64 x0,.int .i64 x1,.int .i64 x2,.int .i64 x3,u] 34)) (.cells #[.int .i64 y0,.int .i64 y1,.int .i64 y2,.int .i64 y3,v] 34))
 obtain⟨b,hb⟩:∃ b,b=decide (x0=y0∧x1=y1∧x2=y2∧x3=y3):=⟨_,rfl⟩
 rw[← hb]
 by_cases h0:x0=y0
 ·have e0:(x0 == y0)=true:=by simpa using h0
  by_cases h1:x1=y1
  ·have e1:(x1 == y1)=true:=by simpa using h1
   by_cases h2:x2=y2
   ·have e2:(x2 == y2)=true:=by simpa using h2
    obtain rfl:b=decide (x3=y3):=by rw [hb]; exact decide_eq_decide.mpr ⟨fun h=>h.2.2.2,fun h=>⟨h0,h1,h2,h⟩⟩
    clear hb h0 h1 h2
    by_cases h3:x3=y3
    ·have e3:(x3 == y3)=true:=by simpa using h3
     rw[decide_eq_true h3]
     clear h3
     go_enter Tryz.func99,Tryz.ntmps99
     go_wp2_with fail
     go_ret
     exact⟨rfl,HB.out⟩
    ·have e3:(x3 == y3)=false:=by simpa using h3
     rw[decide_eq_false h3]
     clear h3
     go_enter Tryz.func99,Tryz.ntmps99
     go_wp2_with fail
     go_ret
     exact⟨rfl,HB.out⟩
   ·have e2:(x2 == y2)=false:=by simpa using h2
    obtain rfl:b=false:=by rw [hb]; exact decide_eq_false fun h=>h2 h.2.2.1
    clear hb h0 h1 h2
    go_enter Tryz.func99,Tryz.ntmps99
    go_wp2_with fail
    go_ret
    exact⟨rfl,HB.out⟩
  ·have e1:(x1 == y1)=false:=by simpa using h1
   obtain rfl:b=false:=by rw [hb]; exact decide_eq_false fun h=>h1 h.2.1
   clear hb h0 h1
   go_enter Tryz.func99,Tryz.ntmps99
   go_wp2_with fail
   go_ret
   exact⟨rfl,HB.out⟩
 ·have e0:(x0 == y0)=false:=by simpa using h0
  obtain rfl:b=false:=by rw [hb]; exact decide_eq_false fun h=>h0 h.1
  clear hb h0
  go_enter Tryz.func99,Tryz.ntmps99
  go_wp2_with fail
  go_ret
  exact⟨rfl,HB.out⟩
end
section
open Go.RowKit Go.Joins OutMath ChunkMath CrcMath
theorem impl_isUpper (b:Int) (w:World):
  Calls Tryz.prog 137 #[.int .u8 b] w fun e w'=>e=.returned (.bool (decide (65≤b∧b≤90)))∧w'=w:=by
 by_cases h1:65≤b
 ·by_cases h2:b≤90
  ·rw[decide_eq_true ⟨h1,h2⟩]
   go_enter Tryz.func137,Tryz.ntmps137
   go_wp2_with fail
   go_ret
   exact⟨rfl,rfl⟩
  ·rw[decide_eq_false (fun q=>h2 q.2)]
   go_enter Tryz.func137,Tryz.ntmps137
   go_wp2_with fail
   go_ret
   exact⟨rfl,rfl⟩
 ·rw[decide_eq_false (fun q=>h1 q.1)]
  go_enter Tryz.func137,Tryz.ntmps137
  go_wp2_with fail
  go_ret
  exact⟨rfl,rfl⟩
theorem impl_isLower (b:Int) (w:World):
  Calls Tryz.prog 131 #[.int .u8 b] w fun e w'=>e=.returned (.bool (decide (97≤b∧b≤122)))∧w'=w:=by
 by_cases h1:97≤b
 ·by_cases h2:b≤122
  ·rw[decide_eq_true ⟨h1,h2⟩]
   go_enter Tryz.func131,Tryz.ntmps131
   go_wp2_with fail
   go_ret
   exact⟨rfl,rfl⟩
  ·rw[decide_eq_false (fun q=>h2 q.2)]
   go_enter Tryz.func131,Tryz.ntmps131
   go_wp2_with fail
   go_ret
   exact⟨rfl,rfl⟩
 ·rw[decide_eq_false (fun q=>h1 q.1)]
  go_enter Tryz.func131,Tryz.ntmps131
  go_wp2_with fail
  go_ret
  exact⟨rfl,rfl⟩
theorem upper_at (n:ByteArray) (i:Nat) (hi:i < n.size) (t:Bool) (h:decide (65≤byteAt n i∧byteAt n i≤90)=t):decide (65≤((n[i]'hi).toNat:Int)∧((n[i]'hi).toNat:Int)≤90)=t:=by
 rw[← h,byteAt_get n i hi]
 exact decide_eq_decide.2 (by omega)
theorem lower_at (n:ByteArray) (i:Nat) (hi:i < n.size) (t:Bool) (h:decide (97≤byteAt n i∧byteAt n i≤122)=t):decide (97≤((n[i]'hi).toNat:Int)∧((n[i]'hi).toNat:Int)≤122)=t:=by
 rw[← h,byteAt_get n i hi]
 exact decide_eq_decide.2 (by omega)
set_option maxHeartbeats 1600000 in
theorem implName_t (n:ByteArray) (t:Bool) (ht:t=decide (NameR n)) (w:World):
  Calls Tryz.prog 130 #[.string n] w fun e w'=>e=.returned (.bool t)∧w'=w:=by
 have HT:=hid_of ht
 clear ht
 by_cases hs:n.size=4
 ·have e0:((n.size:Int) == 4)=true:=beq_iff_eq.2 (by omega)
  go_enter Tryz.func130,Tryz.ntmps130
  go_wp2_with fail
  go_loop [9] (fun i=>∃ j:Nat,j≤n.size∧i=.int .i64 j∧Hid (∀ i,i < j→LetterR (byteAt n i))) (fun i=>n.size - (intOf i).toNat)
  case atStart=>exact⟨0,Nat.zero_le _,rfl,fun i hi=>absurd hi (Nat.not_lt_zero i)⟩
  case round=>
   obtain⟨j,hj,rfl,hok⟩:=hrel
   by_cases hlt:j < n.size
   ·by_cases hu:65≤byteAt n j∧byteAt n j≤90
    ·have HU:=hid_of (upper_at n j hlt true (decide_eq_true hu))
     have HN:Hid (∀ i,i < j+1→LetterR (byteAt n i)):=fun i hi=>by
      by_cases e:i=j
      ·rw[e]; exact .inl hu
      ·exact hok.out i (by omega)
     clear hu
     go_wp2_with fail
     refine (impl_isUpper _ _).mono ?_
     rintro e w1 ⟨rfl,rfl⟩
     rw[HU.out]
     go_wp2_with fail
     go_round
     case rel=>exact⟨j+1,by omega,by go_num,HN⟩
     case measure=>simp [intOf]; omega
    ·have HU:=hid_of (upper_at n j hlt false (decide_eq_false hu))
     by_cases hl:97≤byteAt n j∧byteAt n j≤122
     ·have HL:=hid_of (lower_at n j hlt true (decide_eq_true hl))
      have HN:Hid (∀ i,i < j+1→LetterR (byteAt n i)):=fun i hi=>by
       by_cases e:i=j
       ·rw[e]; exact .inr hl
       ·exact hok.out i (by omega)
      clear hu hl
      go_wp2_with fail
      refine (impl_isUpper _ _).mono ?_
      rintro e w1 ⟨rfl,rfl⟩
      rw[HU.out]
      go_wp2_with fail
      refine (impl_isLower _ _).mono ?_
      rintro e w1 ⟨rfl,rfl⟩
      rw[HL.out]
      go_wp2_with fail
      go_round
      case rel=>exact⟨j+1,by omega,by go_num,HN⟩
      case measure=>simp [intOf]; omega
     ·have HL:=hid_of (lower_at n j hlt false (decide_eq_false hl))
      have HD:Hid (t=false):=HT.out.trans <| decide_eq_false (fun q=>by
       have hx:LetterR (byteAt n j):=by
        obtain⟨_,h0,h1,h2,h3,_⟩:=q
        have:j=0∨j=1∨j=2∨j=3:=by omega
        rcases this with rfl | rfl | rfl | rfl <;> assumption
       rcases hx with hx | hx
       ·exact hu hx
       ·exact hl hx)
      clear hu hl
      go_wp2_with fail
      refine (impl_isUpper _ _).mono ?_
      rintro e w1 ⟨rfl,rfl⟩
      rw[HU.out]
      go_wp2_with fail
      refine (impl_isLower _ _).mono ?_
      rintro e w1 ⟨rfl,rfl⟩
      rw[HL.out]
      go_wp2_with fail
      go_ret
      rw[HD.out]
      exact⟨rfl,rfl⟩
   ·obtain rfl:j=n.size:=by omega
    have l2:2 < n.size:=by omega
    have HD:Hid (decide ((65:Int)≤((n[2]'l2).toNat:Int)∧((n[2]'l2).toNat:Int)≤90)=t):=by
     rw[HT.out]
     have a0:=hok.out 0 (by omega)
     have a1:=hok.out 1 (by omega)
     have a2:=hok.out 2 (by omega)
     have a3:=hok.out 3 (by omega)
     rw[byteAt_get n 2 l2]
     refine decide_eq_decide.2 ⟨fun q=>⟨hs,a0,a1,a2,a3,by omega⟩,fun q=>?_⟩
     have:=q.2.2.2.2.2
     omega
    go_wp2_with fail
    refine (impl_isUpper _ _).mono ?_
    rintro e w1 ⟨rfl,rfl⟩
    rw[HD.out]
    go_wp2_with fail
    go_ret
    exact⟨rfl,rfl⟩
 ·have e0:((n.size:Int) == 4)=false:=beq_eq_false_iff_ne.2 (by omega)
  have ht:=HT.out
  rw[decide_eq_false (fun q=>hs q.1)] at ht
  subst ht
  go_enter Tryz.func130,Tryz.ntmps130
  go_wp2_with fail
  go_ret
  exact⟨rfl,rfl⟩
theorem implName (n:ByteArray) (w:World):
  Calls Tryz.prog 130 #[.string n] w fun e w'=>e=.returned (.bool (decide (NameR n)))∧w'=w:=implName_t n _ rfl w
theorem implNeedless_t (n:ByteArray) (t:Bool) (ht:t=decide (NameR n∧97≤byteAt n 0)) (w:World):
  Calls Tryz.prog 128 #[.string n] w fun e w'=>e=.returned (.bool t)∧w'=w:=by
 have HT:=hid_of ht
 clear ht
 by_cases h:NameR n
 ·have l0:0 < n.size:=by have:=h.1; omega
  have HD:Hid (decide ((97:Int)≤((n[0]'l0).toNat:Int)∧((n[0]'l0).toNat:Int)≤122)=t):=by
   rw[HT.out]
   have hl:LetterR (byteAt n 0):=by obtain⟨_,h0,h1,h2,h3,_⟩:=h; assumption
   rw[byteAt_get n 0 l0]
   refine decide_eq_decide.2 ⟨fun q=>⟨h,by omega⟩,fun q=>?_⟩
   have:=q.2
   omega
  have HN:=hid_of (decide_eq_true h)
  clear h
  go_enter Tryz.func128,Tryz.ntmps128
  go_wp2_with fail
  refine (implName _ _).mono ?_
  rintro e w1 ⟨rfl,rfl⟩
  rw[HN.out]
  go_wp2_with fail
  refine (impl_isLower _ _).mono ?_
  rintro e w1 ⟨rfl,rfl⟩
  rw[HD.out]
  go_wp2_with fail
  go_ret
  exact⟨rfl,rfl⟩
 ·have ht:=HT.out
  rw[decide_eq_false (fun q=>h q.1)] at ht
  subst ht
  have HN:=hid_of (decide_eq_false h)
  clear h
  go_enter Tryz.func128,Tryz.ntmps128
  go_wp2_with fail
  refine (implName _ _).mono ?_
  rintro e w1 ⟨rfl,rfl⟩
  rw[HN.out]
  go_wp2_with fail
  go_ret
  exact⟨rfl,rfl⟩
theorem implNeedless (n:ByteArray) (w:World):
  Calls Tryz.prog 128 #[.string n] w fun e w'=>e=.returned (.bool (decide (NameR n∧97≤byteAt n 0)))∧w'=w:=implNeedless_t n _ rfl w
theorem implSafeToCopy_t (n:ByteArray) (t:Bool) (ht:t=decide (NameR n∧97≤byteAt n 3)) (w:World):
  Calls Tryz.prog 106 #[.string n] w fun e w'=>e=.returned (.bool t)∧w'=w:=by
 have HT:=hid_of ht
 clear ht
 by_cases h:NameR n
 ·have l0:3 < n.size:=by have:=h.1; omega
  have HD:Hid (decide ((97:Int)≤((n[3]'l0).toNat:Int)∧((n[3]'l0).toNat:Int)≤122)=t):=by
   rw[HT.out]
   have hl:LetterR (byteAt n 3):=by obtain⟨_,h0,h1,h2,h3,_⟩:=h; assumption
   rw[byteAt_get n 3 l0]
   refine decide_eq_decide.2 ⟨fun q=>⟨h,by omega⟩,fun q=>?_⟩
   have:=q.2
   omega
  have HN:=hid_of (decide_eq_true h)
  clear h
  go_enter Tryz.func106,Tryz.ntmps106
  go_wp2_with fail
  refine (implName _ _).mono ?_
  rintro e w1 ⟨rfl,rfl⟩
  rw[HN.out]
  go_wp2_with fail
  refine (impl_isLower _ _).mono ?_
  rintro e w1 ⟨rfl,rfl⟩
  rw[HD.out]
  go_wp2_with fail
  go_ret
  exact⟨rfl,rfl⟩
 ·have ht:=HT.out
  rw[decide_eq_false (fun q=>h q.1)] at ht
  subst ht
  have HN:=hid_of (decide_eq_false h)
  clear h
  go_enter Tryz.func106,Tryz.ntmps106
  go_wp2_with fail
  refine (implName _ _).mono ?_
  rintro e w1 ⟨rfl,rfl⟩
  rw[HN.out]
  go_wp2_with fail
  go_ret
  exact⟨rfl,rfl⟩
theorem implSafeToCopy (n:ByteArray) (w:World):
  Calls Tryz.prog 106 #[.string n] w fun e w'=>e=.returned (.bool (decide (NameR n∧97≤byteAt n 3)))∧w'=w:=implSafeToCopy_t n _ rfl w
end
section
open Go.RowKit Go.Joins ChunkMath CrcMath
theorem unsafe_any (x y:ByteArray) (w:World):
  Calls Tryz.prog 105 #[.agg #[.string x,.string y]] w fun e w'=>e=.returned (.bool (!decide (NameR x∧97≤byteAt x 3)))∧Below w.heap.size w w':=by
 have H0:Hid (Below w.heap.size w (w.alloc (.cells #[.string x,.string y] 93))∧(w.alloc (.cells #[.string x,.string y] 93)).heap[w.heap.size]?=some (.cells #[.string x,.string y] 93 (0,0))):=⟨bstart _ _,heap_alloc_new _ _⟩
 have hs:=fun V=>implSafeToCopy x V
 generalize decide (NameR x∧97≤byteAt x 3)=t at hs ⊢
 go_enter Tryz.func105,Tryz.ntmps105
 go_wp2_with fail
 refine (hs _).mono ?_
 rintro e w1 ⟨rfl,rfl⟩
 go_wp2_with fail
 go_ret
 exact⟨rfl,H0.out.1⟩
def IdxTPost (n:Nat) (K:Nat→Chk) (w:World) (e:Ending) (w':World):Prop:=∃ z:Int,e=.returned (.int .i64 z)∧(0≤z↔TouchyR n K)∧Below w.heap.size w w'
set_option maxRecDepth 100000 in
set_option maxHeartbeats 1600000 in
theorem indexT_any (a:Option Addr) (n cap:Nat) (K:Nat→Chk) (w:World) (hC:KCame w a n K) (hn:n≤1048576):
  Calls Tryz.prog 129 #[.slice a n cap,.func (.func 105) #[] #[]] w (IdxTPost n K w):=by
 have HC:=hid_of hC
 clear hC
 go_enter Tryz.func129,Tryz.ntmps129
 go_wp2_with fail
 go_loopw [8] (fun i w'=>∃ j:Nat,j≤n∧i=.int .i64 j∧Hid ((∀ i,i < j→SafeR (K i).1)∧Below w.heap.size w w')) (fun i _=>n - (intOf i).toNat)
 case atStart=>exact⟨0,Nat.zero_le _,rfl,fun i hi=>absurd hi (Nat.not_lt_zero i),Below.refl _ _⟩
 case round=>
  obtain⟨j,hj,rfl,hI⟩:=hrel
  by_cases hlt:j < n
  ·rcases HC.out with h0 | ⟨g,off,rfl,hg,hc⟩
   ·omega
   ·have c0:wr.cell? ⟨g,off+j * 2,none⟩=some (.string (K j).1):=(hI.out.2.cell (p:=⟨g,off+j * 2,none⟩) hg).trans (hc j hlt).1
    have c1:wr.cell? ⟨g,off+j * 2+1,none⟩=some (.string (K j).2):=(hI.out.2.cell (p:=⟨g,off+j * 2+1,none⟩) hg).trans (hc j hlt).2
    have hl2:g < wr.heap.size:=Nat.lt_of_lt_of_le hg hI.out.2.size
    have hs:=fun V=>unsafe_any (K j).1 (K j).2 V
    have HNo:Hid (¬ SafeR (K j).1→∀ W,Below w.heap.size w W→IdxTPost n K w (.returned (.int .i64 (j:Int))) W):=fun h W hb=>⟨_,rfl,⟨fun _ k=>h (k j hlt),fun _=>by omega⟩,hb⟩
    have HYes:Hid (SafeR (K j).1→∀ i,i < j+1→SafeR (K i).1):=fun h i hi=>by
     by_cases e:i=j
     ·rw[e]; exact h
     ·exact hI.out.1 i (by omega)
    obtain⟨x,hx⟩:∃ x,x=(K j).1:=⟨_,rfl⟩
    obtain⟨y,hy⟩:∃ y,y=(K j).2:=⟨_,rfl⟩
    rw[← hx] at c0 HNo HYes
    rw[← hy] at c1
    simp only [← hx,← hy] at hs
    clear hx hy hc
    by_cases p4:NameR x∧97≤byteAt x 3
    ·rw[decide_eq_true p4] at hs
     have HY:=hid_of (HYes.out p4)
     clear p4 HNo HYes
     go_wp2_with fail
     refine (hs _).mono ?_
     rintro e w1 ⟨rfl,hB⟩
     have HB:=hid_of (bnext hI.out.2 hB)
     clear hB
     go_wp2_with fail
     go_roundw
     case rel=>exact⟨j+1,by omega,by go_num,HY.out,HB.out⟩
     case measure=>simp [intOf]; omega
    ·rw[decide_eq_false p4] at hs
     have HN:=hid_of (HNo.out p4)
     clear p4 HNo HYes
     go_wp2_with fail
     refine (hs _).mono ?_
     rintro e w1 ⟨rfl,hB⟩
     have HB:=hid_of (bnext hI.out.2 hB)
     clear hB
     go_wp2_with fail
     go_ret
     exact HN.out _ HB.out
  ·obtain rfl:j=n:=by omega
   have HN:Hid ((0≤(-1:Int))↔TouchyR j K):=⟨fun h=>absurd h (by omega),fun h=>absurd hI.out.1 h⟩
   go_wp2_with fail
   go_ret
   exact⟨_,rfl,HN.out,hI.out.2⟩
theorem hasT_any (a:Option Addr) (n cap:Nat) (K:Nat→Chk) (w:World) (hC:KCame w a n K) (hn:n≤1048576):
  Calls Tryz.prog 104 #[.slice a n cap,.func (.func 105) #[] #[]] w (TouchyPost n K w):=by
 have hi:=indexT_any a n cap K w hC hn
 clear hC
 go_enter Tryz.func104,Tryz.ntmps104
 go_wp2_with fail
 refine hi.mono ?_
 rintro e w1 ⟨z,rfl,hz,hB⟩
 have HE:Hid (decide (0≤z)=true↔TouchyR n K):=by
  show _↔_
  rw[decide_eq_true_iff]
  exact hz
 have HB:=hid_of hB
 clear hz hB
 go_wp2_with fail
 go_ret
 exact⟨_,rfl,HE.out,HB.out⟩
set_option maxRecDepth 100000 in
set_option maxHeartbeats 1600000 in
theorem implTouchy (p:Pic) (q:PicA) (w:World) (hC:KCame w q.ka p.kn p.K) (hn:p.kn≤1048576):
  Calls Tryz.prog 75 #[pngV p q] w (TouchyPost p.kn p.K w):=by
 obtain⟨hw,hh,hd,hc',lace,tn,T,cn,C,rw',rh,rc,rd,sn,S,n,K⟩:=p
 obtain⟨ta,tc,ca,cc,sa,sc,a,kc⟩:=q
 have hb0:=bstart w (.cells #[.int .i64 hw,.int .i64 hh,.int .i64 hd,.int .i64 hc',.bool lace,.slice ta tn tc,.slice ca cn cc,.int .i64 rw',.int .i64 rh,.int .i64 rc,.int .i64 rd,.slice sa sn sc,.slice a n kc] 37)
 have hhas:=hasT_any a n kc K (w.alloc (.cells #[.int .i64 hw,.int .i64 hh,.int .i64 hd,.int .i64 hc',.bool lace,.slice ta tn tc,.slice ca cn cc,.int .i64 rw',.int .i64 rh,.int .i64 rc,.int .i64 rd,.slice sa sn sc,.slice a n kc] 37)) (KCame.called hC hb0) hn
 have HB:=hid_of hb0
 clear hC hn hb0
 show Calls Tryz.prog 75 #[.agg #[.int .i64 hw,.int .i64 hh,.int .i64 hd,.int .i64 hc',.bool lace,.slice ta tn tc,.slice ca cn cc,.int .i64 rw',.int .i64 rh,.int .i64 rc,.int .i64 rd,.slice sa sn sc,.slice a n kc]] w (TouchyPost n K w)
 go_enter Tryz.func75,Tryz.ntmps75
 go_wp2_with fail
 refine hhas.mono ?_
 rintro e w1 ⟨b,rfl,hb,hB⟩
 have HE:=hid_of hb
 have HB1:=hid_of (bnext HB.out hB)
 clear hb hB
 go_wp2_with fail
 go_ret
 exact⟨_,rfl,HE.out,HB1.out⟩
end
section
open Go.RowKit Go.Joins
def wrD (f:Nat→Int) (b:Int) (j i:Nat):Int:=if i < j then f i / b else 0
theorem wrD_here (f:Nat→Int) (b:Int) (j i:Nat):upd (wrD f b j) j (f j / b) i=wrD f b (j+1) i:=by
 unfold upd wrD
 by_cases e:i=j
 ·rw[if_pos e,if_pos (by omega),e]
 ·rw[if_neg e]
  by_cases h:i < j
  ·rw[if_pos h,if_pos (by omega)]
  ·rw[if_neg h,if_neg (by omega)]
def DivI (w u:World) (f:Nat→Int) (b:Int) (g n j:Nat):Prop:=IOwn u w.heap.size g n n (wrD f b j)∧Below w.heap.size w u∧∀ i,i < j→f i % b=0
set_option maxRecDepth 100000 in
set_option maxHeartbeats 1600000 in
theorem implDivided (a:Option Addr) (n c:Nat) (f:Nat→Int) (b:Nat) (w:World) (hC:Came w a n f) (hn:n≤65536) (hf:∀ i,i < n→0≤f i∧f i≤65535) (hb:1≤b∧b≤257):
  Calls Tryz.prog 84 #[.slice a n c,.int .i64 (b:Int)] w (DivPost n f b w):=by
 have H0:Hid (DivI w (w.alloc (.cells (madeCells #[Value.int .i64 0] n) 3)) f b w.heap.size n 0):=⟨(IOwn.made (base:=w.heap.size) w n (by unfold maxLen; omega) (Nat.le_refl _)).congr fun i _=>by unfold wrD; rw [if_neg (by omega)],bstart w _,fun i hi=>absurd hi (Nat.not_lt_zero i)⟩
 have hmk:=make_ints w n (by omega)
 have HC:=hid_of hC
 have HF:=hid_of hf
 clear hC hf
 go_enter Tryz.func84,Tryz.ntmps84
 go_wp2_with fail
 go_loopw [14] (fun i u=>∃ j:Nat,j≤n∧i=.int .i64 j∧Hid (DivI w u f b w.heap.size n j)) (fun i _=>n - (intOf i).toNat)
 case atStart=>exact⟨0,Nat.zero_le _,rfl,H0⟩
 case round=>
  clear H0 hmk
  obtain⟨j,hj,rfl,hS⟩:=hrel
  by_cases hlt:j < n
  ·rcases HC.out with h0 | ⟨g,off,rfl,hg,hc⟩
   ·omega
   ·have c0:=(hS.out.2.1.cell (p:=⟨g,off+j,none⟩) hg).trans (hc j hlt)
    have hl2:g < wr.heap.size:=Nat.lt_of_lt_of_le hg hS.out.2.1.size
    have hv:=HF.out j hlt
    have HNo:Hid (¬ f j % b=0→¬ ∀ i,i < n→f i % b=0):=fun h k=>h (k j hlt)
    have HYes:Hid (f j % b=0→∀ i,i < j+1→f i % b=0):=fun h i hi=>by
     by_cases e:i=j
     ·rw[e]; exact h
     ·exact hS.out.2.2 i (by omega)
    have c1:=hS.out.1.cell j hlt
    have f1:=hS.out.1.free j hlt
    have l1:=hS.out.1.lt
    clear hc
    by_cases hd:f j % b=0
    ·have HS1:Hid (DivI w (wr.setCell ⟨w.heap.size,j,none⟩ (.int .i64 (f j / b))) f b w.heap.size n (j+1)):=⟨(hS.out.1.set j hlt (f j / b)).congr fun i _=>wrD_here f b j i,hS.out.2.1.setCell (p:=⟨w.heap.size,j,none⟩) (Nat.le_refl _) _,HYes.out hd⟩
     clear HNo HYes
     go_wp2_with fail
     go_roundw
     case rel=>exact⟨j+1,by omega,by go_num,HS1⟩
     case measure=>simp [intOf]; omega
    ·have HN:=hid_of (HNo.out hd)
     have HB:=hid_of hS.out.2.1
     clear HNo HYes hS
     go_wp2_with fail
     go_ret2
     exact⟨false,_,_,_,rfl,⟨fun e=>(by cases e),fun k=>absurd k HN.out⟩,fun e=>(by cases e),HB.out⟩
  ·obtain rfl:j=n:=by omega
   have HL:Hid (SL wr w.heap.size (some ⟨w.heap.size,0,none⟩) j j (fun i=>f i / b)∧j≤j∧j≤maxLen):=⟨(hS.out.1.congr fun i hi=>by unfold wrD; rw [if_pos hi]).sl,Nat.le_refl _,by unfold maxLen; omega⟩
   have HR:Hid (∀ i,i < j→f i % b=0):=hid_of hS.out.2.2
   have HB:=hid_of hS.out.2.1
   clear hS
   go_wp2_with fail
   go_ret2
   exact⟨true,_,_,_,rfl,⟨fun _=>HR.out,fun _=>rfl⟩,fun _=>⟨rfl,HL.out.1,HL.out.2⟩,HB.out⟩
end
section
open Go.RowKit OutMath PutMath RastMath HeadMath ChunkMath
def mulD (d:Nat):Int:=65535 / (p2 d - 1)
def chanN (c:Int):Nat:=(chan c).toNat
def smq (p:Pic) (at' k:Nat):Int:=p.S (at' * chanN p.hc+k)
def coverT (p:Pic) (v:Int):Int:=if v < (p.cn:Int) then p.C v.toNat else 255
def clearAt (p:Pic) (at':Nat):Prop:=chanN p.hc=p.cn∧∀ i,i < chanN p.hc→smq p at' i=p.C i
def clearB (p:Pic) (at':Nat):Bool:=decide (chanN p.hc=p.cn) && (List.range (chanN p.hc)).all fun i=>decide (smq p at' i=p.C i)
theorem clearB_iff (p:Pic) (at':Nat):clearB p at'=true↔clearAt p at':=by
 unfold clearB clearAt
 simp
def pixV (p:Pic) (at':Nat) (k:Nat):Int:=
 if p.hc=3 then 257 * (if k=0 then (p.T (smq p at' 0).toNat).1 else if k=1 then (p.T (smq p at' 0).toNat).2.1 else if k=2 then (p.T (smq p at' 0).toNat).2.2 else coverT p (smq p at' 0))
 else if p.hc=4 then (if k < 3 then smq p at' 0 else smq p at' 1) * mulD p.hd.toNat
 else if p.hc=6 then smq p at' k * mulD p.hd.toNat
 else if k < 3 then (if p.hc=2 then smq p at' k else smq p at' 0) * mulD p.hd.toNat
 else if clearB p at' then 0 else 65535
def pixN (p:Pic):Nat:=(p.hw * p.hh).toNat
theorem mulD_five {d:Nat} (h:Five (d:Int)):1≤mulD d∧mulD d≤65535∧(p2 d - 1) * mulD d=65535∧1≤p2 d - 1:=by
 have:d=1∨d=2∨d=4∨d=8∨d=16:=by unfold Five at h; omega
 rcases this with rfl | rfl | rfl | rfl | rfl <;> decide +kernel
theorem mulD_way {d:Nat} (h:Five (d:Int)) (x:Int):x * 65535 / (p2 d - 1)=x * mulD d:=by
 obtain⟨_,_,h3,h4⟩:=mulD_five h
 rw[← h3,show x * ((p2 d - 1) * mulD d)=(x * mulD d) * (p2 d - 1) by rw [Int.mul_comm (p2 d - 1),Int.mul_assoc]]
 exact Int.mul_ediv_cancel _ (by omega)
end
section
open Go.RowKit
def tkF (n s o:Nat) (f:Nat→Int) (j:Nat):Int:=f (n * (j / o)+s+j % o)
theorem tkF_at (n s o:Nat) (f:Nat→Int) (k i:Nat) (hi:i < o):tkF n s o f (o * k+i)=f (n * k+s+i):=by
 unfold tkF
 rw[Nat.mul_add_div (by omega),Nat.div_eq_of_lt hi,Nat.mul_add_mod,Nat.mod_eq_of_lt hi,Nat.add_zero]
theorem fints_add (F:Nat→Int) (a b:Nat):fints F (a+b)=fints F a ++ fints (fun i=>F (a+i)) b:=by
 unfold fints
 rw[List.range_add,List.map_append,List.map_map]
 rfl
theorem fints_tk (n s o:Nat) (f:Nat→Int) (k:Nat):fints (tkF n s o f) (o * (k+1))=fints (tkF n s o f) (o * k) ++ fints (fun i=>f (n * k+s+i)) o:=by
 rw[Nat.mul_succ,fints_add]
 congr 1
 exact fints_congr fun i hi=>tkF_at n s o f k i hi
def covL (n:Nat) (f:Nat→Int):Nat→List Int
 | 0=>[]
 | i+1=>if i % n < n - 1 then covL n f i ++ [f i] else covL n f i
theorem covL_at (n:Nat) (hn:2≤n) (f:Nat→Int) (k:Nat):∀ j,j≤n→covL n f (n * k+j)=(List.range ((n - 1) * k+min j (n - 1))).map (tkF n 0 (n - 1) f):=by
 induction k with
 | zero=>
  intro j hj
  induction j with
  | zero=>simp [covL]
  | succ j ih=>
   have hm:(n * 0+j) % n=j:=by rw [Nat.mul_zero,Nat.zero_add]; exact Nat.mod_eq_of_lt (by omega)
   show covL n f (n * 0+j+1)=_
   unfold covL
   rw[hm,ih (by omega)]
   by_cases h:j < n - 1
   ·rw[if_pos h,show min (j+1) (n - 1)=min j (n - 1)+1 by omega,← Nat.add_assoc,List.range_succ,List.map_append]
    congr 1
    have:=tkF_at n 0 (n - 1) f 0 j h
    rw[show min j (n - 1)=j by omega]
    simp only [List.map_cons,List.map_nil]
    rw[this]
    simp
   ·rw[if_neg h,show min (j+1) (n - 1)=min j (n - 1) by omega]
 | succ k ihk=>
  intro j hj
  induction j with
  | zero=>
   have:=ihk n (Nat.le_refl _)
   rw[show n * (k+1)+0=n * k+n by rw [Nat.mul_succ,Nat.add_zero],this]
   congr 2
   rw[Nat.mul_succ]
   omega
  | succ j ih=>
   have hm:(n * (k+1)+j) % n=j:=by rw [Nat.mul_add_mod]; exact Nat.mod_eq_of_lt (by omega)
   show covL n f (n * (k+1)+j+1)=_
   unfold covL
   rw[hm,ih (by omega)]
   by_cases h:j < n - 1
   ·rw[if_pos h,show min (j+1) (n - 1)=min j (n - 1)+1 by omega,← Nat.add_assoc,List.range_succ,List.map_append]
    congr 1
    have:=tkF_at n 0 (n - 1) f (k+1) j h
    rw[show min j (n - 1)=j by omega]
    simp only [List.map_cons,List.map_nil]
    rw[this]
    simp
   ·rw[if_neg h,show min (j+1) (n - 1)=min j (n - 1) by omega]
theorem covL_whole (n:Nat) (hn:2≤n) (f:Nat→Int) (N:Nat):covL n f (n * N)=(List.range ((n - 1) * N)).map (tkF n 0 (n - 1) f):=by
 have:=covL_at n hn f N 0 (Nat.zero_le _)
 simpa using this
theorem covL_length (n:Nat) (f:Nat→Int) (i:Nat):(covL n f i).length≤i:=by
 induction i with
 | zero=>simp [covL]
 | succ i ih=>
  unfold covL
  by_cases h:i % n < n - 1
  ·rw[if_pos h]; simp; omega
  ·rw[if_neg h]; omega
end
section
open Go.RowKit OutMath PutMath RastMath HeadMath ChunkMath CrcMath
theorem png_n {p:Pic} (h:PngR p):p.sn=chanN p.hc * pixN p∧1≤pixN p∧pixN p≤576:=by
 obtain⟨⟨⟨_,_,_⟩,⟨⟨a1,a2⟩,⟨b1,b2⟩,_,hn,hS⟩,e1,e2,e3,e4⟩,_⟩:=h
 have h1:1≤p.rw * p.rh:=by
  have:=Int.mul_le_mul a1 b1 (by omega) (by omega)
  omega
 have h2:p.rw * p.rh≤24 * 24:=Int.mul_le_mul a2 b2 (by omega) (by omega)
 have h3:=chan_range p.rc
 unfold pixN chanN
 rw[← e1,← e2,← e3]
 refine⟨?_,by omega,by omega⟩
 have:((p.sn:Nat):Int)=(((chan p.rc).toNat * (p.rw * p.rh).toNat:Nat):Int):=by
  rw[hn,Int.natCast_mul,Int.toNat_of_nonneg h3.1,Int.toNat_of_nonneg (by omega),Int.mul_comm]
 exact Int.ofNat.inj this
def covO (p:Pic):Nat:=if p.hc=4 then 1 else 3
def covM (p:Pic):Int:=if p.hd=8 then 255 else 65535
def CovC (p:Pic):Prop:=(MayR p∧(p.hc=4∨p.hc=6))∧∀ k,k < pixN p→p.S ((covO p+1) * k+covO p)=covM p
def covP (p:Pic):Pic:=withP p (p.hc - 4) p.hd (covO p * pixN p) (tkF (covO p+1) 0 (covO p) p.S) 0 (fun _=>0)
theorem may_depth {p:Pic} (h:MayR p) (hc:p.hc=4∨p.hc=6):p.hd=8∨p.hd=16:=by
 have h5:=h.1.1.1.2.2
 unfold DepthR Five at h5
 omega
theorem covP_sn {p:Pic} (h:CovC p):(covP p).sn≤1048576:=by
 have h1:=(png_n h.1.1.1).2.2
 show covO p * pixN p≤1048576
 have h3:covO p≤3:=by unfold covO; split <;> omega
 have:=Nat.mul_le_mul h3 h1
 omega
end
section
open Go.RowKit Go.Shelf
theorem calls_of_marks {P:Program} {f:FuncId} {fn:Func} {c:Code} {args:Array Value} {w:World} {R:Ending→World→Prop} (hf:P.funcs[f]?=some fn) (hb:fn.body=some c)
  (h:c.wp P (bodyPostM Fence.wide 6 P fn R) { tmps:=args ++ Array.replicate (fn.ntmps - args.size) undef,defers:=[] } w):Calls P f args w R:=
 (callsIn_wide (n:=6)).1 (callsIn_of_wp_marks hf hb trivial (wpIn_wide.2 h) rfl)
def TellsNext (gf:Nat) (lb:Array Value) (encs:Nat→Array Value) (N:Nat) (Kp:World→World→Prop) (W:World):Prop:=
 ∀ (l:Nat) (J:Nat→World→Prop) (V:World),Kp W V→(∀ k X n,J k X→J k (X.drewN n))→
  (∀ k X,k < N→J k X→YieldAt Fence.wide 4 Tryz.prog l (encs k) X fun e Y=>e=.returned (.bool true)∧J (k+1) Y∧Kp X Y)→J 0 V→
  CallsIn Fence.wide 5 Tryz.prog gf (#[.func (.yield l) #[] #[]] ++ lb) V fun e Y=>(∃ v,e=.returned v)∧J N Y
def Rec (W X:World) (r:Loop):Prop:=X.heap[W.heap.size+1]?=some (.loop r)∧X.heap[W.heap.size]?=some (.deferred (some []))
theorem Rec.kept {W X Y:World} {r:Loop} (h:Rec W X r) (hk:KeepsFrom W.heap.size X Y):Rec W Y r:=
 ⟨hk.same _ _ (Nat.le_succ _) h.1 rfl,hk.same _ _ (Nat.le_refl _) h.2 rfl⟩
theorem Rec.put {W X:World} {r:Loop} (h:Rec W X r) (r':Loop):Rec W (X.putObj (W.heap.size+1) (.loop r')) r':=
 ⟨World.putObj_heap_same (block_lt h.1),(World.putObj_heap_other (by omega)).trans h.2⟩
theorem wp_range_next {T:Array Value} {g:Operand} {ps:Array Tmp} {assign body:Code} {Q:Exit→Act→World→Prop} {W:World} {gf:Nat} {lb:Array Value} (encs:Nat→Array Value) (N:Nat) (Kp:World→World→Prop)
  (hg:({ tmps:=T,defers:=[] }:Act).eval g=.func (.func gf) #[] lb) (eg:∀ args w,(callFunc gf args).run Tryz.prog w=.ok (.enter gf args) w) (hps:∀ k,(encs k).size=ps.size) (hseq:TellsNext gf lb encs N Kp W)
  (hKt:∀ {A B C:World},Kp A B→Kp B C→Kp A C) (hKp:∀ (X:World) (i:Nat) (o:Obj),W.heap.size≤i→Kp X (X.putObj i o)) (hKa:∀ (X:World) (o:Obj),W.heap.size≤X.heap.size→Kp X (X.alloc o))
  (I:Nat→World→Prop) (hI:OwnFrom W.heap.size I) (hId:∀ k X n,I k X→I k (X.drewN n)) (h0:I 0 W) (a₁:Nat→Act)
  (hassign:∀ (l k:Nat) (X:World) (K:Act→World→Prop),K (a₁ k) X→assign.wpIn (Fence.wide.inRound l) 4 Tryz.prog (Exit.then K (fun _ _ _=>False)) { tmps:=(ps.zip (encs k)).foldl (fun t (p,v)=>t.setIfInBounds p v) T,defers:=[] } X)
  (hbody:∀ (l k:Nat) (X:World),k < N→I k X→body.wpIn (Fence.wide.inRound l) 4 Tryz.prog (fun e _ Y=>e=.normal∧KeepsFrom W.heap.size X Y∧Kp X Y∧I (k+1) Y) (a₁ k) X)
  (hdone:∀ (X:World),I N X→X.heap[W.heap.size]?=some (.deferred (some []))→Q .normal { tmps:=T,defers:=[{ target:=.collected W.heap.size,args:=#[] }] } X):
  (Code.rangeFunc g ps assign body).wp Tryz.prog Q { tmps:=T,defers:=[] } W:=by
 refine (wpIn_wide (n:=6)).1 (wpIn_rangeFunc fun fn hfn=>?_)
 obtain⟨rc,hrc⟩:∃ rc:LoopState→Loop,rc=fun st=>{ state:=st,pending:=none,fn:=fn,tmps:=T,params:=ps,assign:=assign,body:=body,defers:=W.heap.size }:=⟨_,rfl⟩
 obtain⟨V,hV⟩:∃ V,V=(W.alloc (.deferred (some []))).alloc (.loop (rc .ready)):=⟨_,rfl⟩
 have hs1:(W.alloc (.deferred (some []))).heap.size=W.heap.size+1:=by simp
 have hRec:Rec W V (rc .ready):=by
  rw[hV]
  refine⟨?_,?_⟩
  ·have:=World.alloc_heap_new (W.alloc (.deferred (some []))) (.loop (rc .ready))
   rw[hs1] at this
   exact this
  ·exact ((bstart (W.alloc (.deferred (some []))) _).block _ (by omega)).trans (World.alloc_heap_new W _)
 have hIV:I 0 V:=by
  rw[hV]
  exact hI.alloc _ (hI.alloc _ h0)
 have hKV:Kp W V:=by
  rw[hV]
  exact hKt (hKa W _ (Nat.le_refl _)) (hKa _ _ (by omega))
 refine⟨W.heap.size+1,[{ target:=.collected W.heap.size,args:=#[] }],V,{ target:=.fn (.func gf) lb,args:=#[.func (.yield (W.heap.size+1)) #[] #[]] },V,gf,#[.func (.yield (W.heap.size+1)) #[] #[]] ++ lb,V,?_,?_,?_,?_,fun _=>by omega,?_⟩
 ·rw[hV,hrc]
  exact run_enterLoop_outer _ _ _ _ _
 ·simp only [resolve,hg]
  simp[go_sem]
 ·exact fun _ _=>trivial
 ·simp[invoke,go_sem,eg]
 ·refine (hseq (W.heap.size+1) (fun k X=>I k X∧Rec W X (rc .ready)) V hKV (fun k X n h=>⟨hId k X n h.1,h.2⟩) ?_ ⟨hIV,hRec⟩).mono ?_
  ·rintro k X hk ⟨hi,hr⟩
   have hy:=run_yield (P:=Tryz.prog) (args:=encs k) hr.1 (by rw [hrc]; exact hps k)
   rw[hrc] at hy
   refine⟨fn,_,assign,body,hy,roundIn_of_wpIn hfn (hassign _ k X _ ⟨_,run_beginRound hr.1 (by rw [hrc]),?_⟩)⟩
   have hb:Rec W (X.putObj (W.heap.size+1) (.loop { rc .ready with state:=.busy })) { rc .ready with state:=.busy }:=hr.put _
   refine wpIn_mono (hbody _ k _ hk (hI.putObj _ hi (Nat.le_succ _) hr.1 rfl)) ?_
   rintro e a3 Y ⟨rfl,h1,h2,h3⟩
   have hy3:=hb.kept h1
   have he:=run_endRound (P:=Tryz.prog) none hy3.1
   refine⟨_,_,he,rfl,⟨hI.putObj _ h3 (Nat.le_succ _) hy3.1 rfl,?_⟩,hKt (hKt (hKp X _ _ (Nat.le_succ _)) h2) (hKp Y _ _ (Nat.le_succ _))⟩
   have hz:=hy3.put { rc .ready with state:=.ready,pending:=none }
   rw[hrc] at hz ⊢
   exact hz
  ·rintro e Y ⟨⟨v,rfl⟩,hi,hr⟩
   have he:=run_endLoop (P:=Tryz.prog) hr.1 (by rw [hrc]; simp)
   have hp:(rc .ready).pending=none:=by rw [hrc]
   rw[hp] at he
   exact⟨none,_,he,hdone _ (hI.putObj _ hi (Nat.le_succ _) hr.1 rfl) ((World.putObj_heap_other (by omega)).trans hr.2)⟩
end
section
open Go.RowKit Go.Shelf
attribute [local go_sem] Oper.semAt_some
def BothI (a b:Nat) (W W':World):Prop:=W'.heap[a]?=W.heap[a]?∧W'.heap[b]?=W.heap[b]?
def chunkI (g off n k:Nat):Array Value:=#[.slice (some ⟨g,off+n * k,none⟩) n n]
theorem chunkI_any (a:Option Addr) (len cap n:Nat) (w:World) (hn:1≤n):
  Calls Tryz.prog 76 #[.slice a len cap,.int .i64 (n:Int)] w fun e w'=>e=.returned (.func (.func 107) #[] #[.pointer (some ⟨w.heap.size,0,none⟩),.pointer (some ⟨w.heap.size+1,0,none⟩)])∧w'=(w.alloc (.cells #[.slice a len cap] 25)).alloc (.cells #[.int .i64 (n:Int)] 3):=by
 have d:decide ((n:Int) < 1)=false:=decide_eq_false (by omega)
 go_enter Tryz.func76,Tryz.ntmps76
 go_wp2_with fail
 go_ret
 exact⟨rfl,rfl⟩
set_option maxRecDepth 100000 in
set_option maxHeartbeats 2000000 in
theorem chunkI_tells (Bs Bn g off n m cap:Nat) (hn:1≤n) (hn4:n≤4) (hm:m≤1024) (hcap:n * m≤cap) (W:World) (hBs:W.cell? ⟨Bs,0,none⟩=some (.slice (some ⟨g,off,none⟩) (n * m) cap)) (hBn:W.cell? ⟨Bn,0,none⟩=some (.int .i64 (n:Int))):
  TellsNext 107 #[.pointer (some ⟨Bs,0,none⟩),.pointer (some ⟨Bn,0,none⟩)] (chunkI g off n) m (BothI Bs Bn) W:=by
 intro l J V hWV hJd hY h0
 have HY:=hid_of hY
 have HJD:=hid_of hJd
 have HWV:=hid_of hWV
 have hnm:n * m≤4096:=by
  have:=Nat.mul_le_mul hn4 hm
  omega
 obtain⟨L,hL⟩:∃ L,L=n * m:=⟨_,rfl⟩
 rw[← hL] at hBs hcap hnm
 have HL:=hid_of hL
 clear hY hJd hWV hL
 refine callsIn_of_wp Tryz.func107 rfl trivial ?_ rfl
 simp only [Tryz.ntmps107,List.size_toArray,List.length_cons,List.length_nil,Nat.reduceAdd,Nat.reduceSub,Array.replicate_succ,Array.replicate_zero,List.push_toArray,List.append_toArray,List.nil_append,List.cons_append]
 gi_wp2
 gi_loopw [4] (fun i wr=>∃ k a:Nat,k≤m∧Hid (a=n * k)∧i=.int .i64 (a:Int)∧Hid (J k wr∧BothI Bs Bn W wr))
  (fun i _=>(L+60 - intOf i).toNat)
 case atStart=>exact⟨0,0,Nat.zero_le _,(Nat.mul_zero n).symm,rfl,h0,HWV.out⟩
 case round=>
  obtain⟨k,a,hk,ha,rfl,hS⟩:=hrel
  have c1:wr.cell? ⟨Bs,0,none⟩=some (.slice (some ⟨g,off,none⟩) L cap):=(heap_cell hS.out.2.1 0).trans hBs
  have c2:wr.cell? ⟨Bn,0,none⟩=some (.int .i64 (n:Int)):=(heap_cell hS.out.2.2 0).trans hBn
  by_cases hlt:k < m
  ·have hle:a+n≤L:=by
    have h1:=ha.out
    have h2:=HL.out
    have h3:=Nat.mul_le_mul_left n (show k+1≤m from hlt)
    rw[Nat.mul_succ] at h3
    omega
   have d1:decide ((a:Int) < (L:Int))=true:=decide_eq_true (by omega)
   have h1:(0:Int)≤(a:Int):=by omega
   have h2:(a:Int)≤(L:Int):=by omega
   have h3:(a:Int)≤(cap:Int):=by omega
   have q2:decide (((L - a:Nat):Int) < (n:Int))=false:=decide_eq_false (by omega)
   have q1:¬ ((L - a:Nat):Int) < (n:Int):=by omega
   have q3:min (n:Int) ((L - a:Nat):Int)=(n:Int):=by omega
   have q4:IntKind.i64.wrap ((a:Int)+(n:Int))=((a+n:Nat):Int):=by rw [IntKind.wrap_i64]; omega
   have h4:(a:Int)≤((a+n:Nat):Int):=by omega
   have h5:((a+n:Nat):Int)≤(cap:Int):=by omega
   have h6:(0:Int)≤((a+n:Nat):Int):=by omega
   gi_wp2
   gi_region
   all_goals
    obtain⟨fn,tmps,assign,body,hy,hR⟩:=HY.out k wr.drew (by omega) (HJD.out k wr 1 hS.out.1)
    rw[show chunkI g off n k=#[.slice (some ⟨g,off+a,none⟩) n n] from by
     unfold chunkI
     rw[← ha.out]] at hy
    gi_wp2
    refine hR.mono ?_
    rintro e W3 ⟨rfl,hJ3,hk3⟩
    have c4:W3.cell? ⟨Bn,0,none⟩=some (.int .i64 (n:Int)):=(heap_cell hk3.2 0).trans c2
    have H3:Hid (J (k+1) W3∧BothI Bs Bn W W3):=⟨hJ3,hk3.1.trans hS.out.2.1,hk3.2.trans hS.out.2.2⟩
    have HA:Hid (a+n=n * (k+1)):=by
     show _=_
     rw[Nat.mul_succ,← ha.out]
    clear hJ3 hk3
    gi_wp2
    go_roundw
    case rel=>exact⟨k+1,a+n,by omega,HA,by go_num,H3⟩
    case measure=>simp [intOf]; omega
  ·have hkm:k=m:=by omega
   have haL:¬ a < L:=by have h1:=ha.out; have h2:=HL.out; rw [hkm] at h1; omega
   have d1:decide ((a:Int) < (L:Int))=false:=decide_eq_false (by omega)
   have d2:decide (a < L)=false:=decide_eq_false haL
   have HKM:=hid_of hkm
   clear hkm haL hlt
   gi_wp2
   go_end0
   exact⟨⟨_,rfl⟩,HKM.out ▸ hS.out.1⟩
where
 heap_cell {W W':World} {g:Nat} (h:W'.heap[g]?=W.heap[g]?) (j:Nat):W'.cell? ⟨g,j,none⟩=W.cell? ⟨g,j,none⟩:=by
  unfold World.cell?
  rw[h]
end
section
open Go.RowKit Go.Shelf
def TellsEarly (gf:Nat) (lb:Array Value) (encs:Nat→Array Value) (N:Nat) (Kp:World→World→Prop) (W:World):Prop:=
 ∀ (l:Nat) (J:Nat→World→Prop) (Jx:World→Prop) (V:World),Kp W V→(∀ k X n,J k X→J k (X.drewN n))→(∀ X n,Jx X→Jx (X.drewN n))→
  (∀ k X,k < N→J k X→YieldAt Fence.wide 4 Tryz.prog l (encs k) X fun e Y=>(e=.returned (.bool true)∧J (k+1) Y∧Kp X Y)∨(e=.returned (.bool false)∧Jx Y))→J 0 V→
  CallsIn Fence.wide 5 Tryz.prog gf (#[.func (.yield l) #[] #[]] ++ lb) V fun e Y=>(∃ v,e=.returned v)∧(J N Y∨Jx Y)
theorem wp_range_early {T:Array Value} {g:Operand} {ps:Array Tmp} {assign body:Code} {Q:Exit→Act→World→Prop} {W:World} {gf:Nat} {lb:Array Value} (encs:Nat→Array Value) (N:Nat) (Kp:World→World→Prop)
  (hg:({ tmps:=T,defers:=[] }:Act).eval g=.func (.func gf) #[] lb) (eg:∀ args w,(callFunc gf args).run Tryz.prog w=.ok (.enter gf args) w) (hps:∀ k,(encs k).size=ps.size) (hseq:TellsEarly gf lb encs N Kp W)
  (hKt:∀ {A B C:World},Kp A B→Kp B C→Kp A C) (hKp:∀ (X:World) (i:Nat) (o:Obj),W.heap.size≤i→Kp X (X.putObj i o)) (hKa:∀ (X:World) (o:Obj),W.heap.size≤X.heap.size→Kp X (X.alloc o))
  (I:Nat→World→Prop) (hI:OwnFrom W.heap.size I) (hId:∀ k X n,I k X→I k (X.drewN n)) (h0:I 0 W) (Ix:World→Prop) (hIx:OwnFrom W.heap.size fun (_:Nat) X=>Ix X) (hIxd:∀ X n,Ix X→Ix (X.drewN n)) (a₁:Nat→Act)
  (hassign:∀ (l k:Nat) (X:World) (K:Act→World→Prop),K (a₁ k) X→assign.wpIn (Fence.wide.inRound l) 4 Tryz.prog (Exit.then K (fun _ _ _=>False)) { tmps:=(ps.zip (encs k)).foldl (fun t (p,v)=>t.setIfInBounds p v) T,defers:=[] } X)
  (hbody:∀ (l k:Nat) (X:World),k < N→I k X→body.wpIn (Fence.wide.inRound l) 4 Tryz.prog (fun e _ Y=>(e=.normal∧KeepsFrom W.heap.size X Y∧Kp X Y∧I (k+1) Y)∨(e=.ret∧KeepsFrom W.heap.size X Y∧Ix Y)) (a₁ k) X)
  (hdone:∀ (X:World),I N X→X.heap[W.heap.size]?=some (.deferred (some []))→Q .normal { tmps:=T,defers:=[{ target:=.collected W.heap.size,args:=#[] }] } X)
  (hstop:∀ (X:World),Ix X→X.heap[W.heap.size]?=some (.deferred (some []))→Code.ret.wp Tryz.prog Q { tmps:=T,defers:=[{ target:=.collected W.heap.size,args:=#[] }] } X):
  (Code.rangeFunc g ps assign body).wp Tryz.prog Q { tmps:=T,defers:=[] } W:=by
 refine (wpIn_wide (n:=6)).1 (wpIn_rangeFunc fun fn hfn=>?_)
 obtain⟨rc,hrc⟩:∃ rc:LoopState→Loop,rc=fun st=>{ state:=st,pending:=none,fn:=fn,tmps:=T,params:=ps,assign:=assign,body:=body,defers:=W.heap.size }:=⟨_,rfl⟩
 obtain⟨V,hV⟩:∃ V,V=(W.alloc (.deferred (some []))).alloc (.loop (rc .ready)):=⟨_,rfl⟩
 have hs1:(W.alloc (.deferred (some []))).heap.size=W.heap.size+1:=by simp
 have hRec:Rec W V (rc .ready):=by
  rw[hV]
  refine⟨?_,?_⟩
  ·have:=World.alloc_heap_new (W.alloc (.deferred (some []))) (.loop (rc .ready))
   rw[hs1] at this
   exact this
  ·exact ((bstart (W.alloc (.deferred (some []))) _).block _ (by omega)).trans (World.alloc_heap_new W _)
 have hIV:I 0 V:=by
  rw[hV]
  exact hI.alloc _ (hI.alloc _ h0)
 have hKV:Kp W V:=by
  rw[hV]
  exact hKt (hKa W _ (Nat.le_refl _)) (hKa _ _ (by omega))
 refine⟨W.heap.size+1,[{ target:=.collected W.heap.size,args:=#[] }],V,{ target:=.fn (.func gf) lb,args:=#[.func (.yield (W.heap.size+1)) #[] #[]] },V,gf,#[.func (.yield (W.heap.size+1)) #[] #[]] ++ lb,V,?_,?_,?_,?_,fun _=>by omega,?_⟩
 ·rw[hV,hrc]
  exact run_enterLoop_outer _ _ _ _ _
 ·simp only [resolve,hg]
  simp[go_sem]
 ·exact fun _ _=>trivial
 ·simp[invoke,go_sem,eg]
 ·refine (hseq (W.heap.size+1) (fun k X=>I k X∧Rec W X (rc .ready)) (fun X=>Ix X∧Rec W X { rc .done with pending:=some .ret }) V hKV (fun k X n h=>⟨hId k X n h.1,h.2⟩) (fun X n h=>⟨hIxd X n h.1,h.2⟩) ?_ ⟨hIV,hRec⟩).mono ?_
  ·rintro k X hk ⟨hi,hr⟩
   have hy:=run_yield (P:=Tryz.prog) (args:=encs k) hr.1 (by rw [hrc]; exact hps k)
   rw[hrc] at hy
   refine⟨fn,_,assign,body,hy,roundIn_of_wpIn hfn (hassign _ k X _ ⟨_,run_beginRound hr.1 (by rw [hrc]),?_⟩)⟩
   have hb:Rec W (X.putObj (W.heap.size+1) (.loop { rc .ready with state:=.busy })) { rc .ready with state:=.busy }:=hr.put _
   refine wpIn_mono (hbody _ k _ hk (hI.putObj _ hi (Nat.le_succ _) hr.1 rfl)) ?_
   rintro e a3 Y (⟨rfl,h1,h2,h3⟩ | ⟨rfl,h1,h3⟩)
   rotate_left
   ·have hy3:=hb.kept h1
    have he:=run_endRound (P:=Tryz.prog) (some .ret) hy3.1
    refine⟨_,_,he,.inr ⟨rfl,hIx.putObj (s:=(0:Nat)) _ h3 (Nat.le_succ _) hy3.1 rfl,?_⟩⟩
    have hz:=hy3.put { rc .done with state:=.done,pending:=some .ret }
    rw[hrc] at hz ⊢
    exact hz
   have hy3:=hb.kept h1
   have he:=run_endRound (P:=Tryz.prog) none hy3.1
   refine⟨_,_,he,.inl ⟨rfl,⟨hI.putObj _ h3 (Nat.le_succ _) hy3.1 rfl,?_⟩,hKt (hKt (hKp X _ _ (Nat.le_succ _)) h2) (hKp Y _ _ (Nat.le_succ _))⟩⟩
   have hz:=hy3.put { rc .ready with state:=.ready,pending:=none }
   rw[hrc] at hz ⊢
   exact hz
  ·rintro e Y ⟨⟨v,rfl⟩,(⟨hi,hr⟩ | ⟨hi,hr⟩)⟩
   rotate_left
   ·have he:=run_endLoop (P:=Tryz.prog) hr.1 (by rw [hrc]; simp)
    refine⟨some .ret,_,he,?_⟩
    exact wpIn_wide.2 (hstop _ (hIx.putObj (s:=(0:Nat)) _ hi (Nat.le_succ _) hr.1 rfl) ((World.putObj_heap_other (by omega)).trans hr.2))
   have he:=run_endLoop (P:=Tryz.prog) hr.1 (by rw [hrc]; simp)
   have hp:(rc .ready).pending=none:=by rw [hrc]
   rw[hp] at he
   exact⟨none,_,he,hdone _ (hI.putObj _ hi (Nat.le_succ _) hr.1 rfl) ((World.putObj_heap_other (by omega)).trans hr.2)⟩
end
section
open Go.RowKit Go.Shelf
attribute [local go_sem] Oper.semAt_some
set_option maxRecDepth 100000 in
set_option maxHeartbeats 2000000 in
theorem chunkE_tells (Bs Bn g off n m cap:Nat) (hn:1≤n) (hn4:n≤4) (hm:m≤1024) (hcap:n * m≤cap) (W:World) (hBs:W.cell? ⟨Bs,0,none⟩=some (.slice (some ⟨g,off,none⟩) (n * m) cap)) (hBn:W.cell? ⟨Bn,0,none⟩=some (.int .i64 (n:Int))):
  TellsEarly 107 #[.pointer (some ⟨Bs,0,none⟩),.pointer (some ⟨Bn,0,none⟩)] (chunkI g off n) m (BothI Bs Bn) W:=by
 intro l J Jx V hWV hJd hXd hY h0
 have HY:=hid_of hY
 have HJD:=hid_of hJd
 have HWV:=hid_of hWV
 have hnm:n * m≤4096:=by
  have:=Nat.mul_le_mul hn4 hm
  omega
 obtain⟨L,hL⟩:∃ L,L=n * m:=⟨_,rfl⟩
 rw[← hL] at hBs hcap hnm
 have HL:=hid_of hL
 clear hY hJd hWV hL
 refine callsIn_of_wp Tryz.func107 rfl trivial ?_ rfl
 simp only [Tryz.ntmps107,List.size_toArray,List.length_cons,List.length_nil,Nat.reduceAdd,Nat.reduceSub,Array.replicate_succ,Array.replicate_zero,List.push_toArray,List.append_toArray,List.nil_append,List.cons_append]
 gi_wp2
 gi_loopw [4] (fun i wr=>∃ k a:Nat,k≤m∧Hid (a=n * k)∧i=.int .i64 (a:Int)∧Hid (J k wr∧BothI Bs Bn W wr))
  (fun i _=>(L+60 - intOf i).toNat)
 case atStart=>exact⟨0,0,Nat.zero_le _,(Nat.mul_zero n).symm,rfl,h0,HWV.out⟩
 case round=>
  obtain⟨k,a,hk,ha,rfl,hS⟩:=hrel
  have c1:wr.cell? ⟨Bs,0,none⟩=some (.slice (some ⟨g,off,none⟩) L cap):=(heap_cell hS.out.2.1 0).trans hBs
  have c2:wr.cell? ⟨Bn,0,none⟩=some (.int .i64 (n:Int)):=(heap_cell hS.out.2.2 0).trans hBn
  by_cases hlt:k < m
  ·have hle:a+n≤L:=by
    have h1:=ha.out
    have h2:=HL.out
    have h3:=Nat.mul_le_mul_left n (show k+1≤m from hlt)
    rw[Nat.mul_succ] at h3
    omega
   have d1:decide ((a:Int) < (L:Int))=true:=decide_eq_true (by omega)
   have h1:(0:Int)≤(a:Int):=by omega
   have h2:(a:Int)≤(L:Int):=by omega
   have h3:(a:Int)≤(cap:Int):=by omega
   have q2:decide (((L - a:Nat):Int) < (n:Int))=false:=decide_eq_false (by omega)
   have q1:¬ ((L - a:Nat):Int) < (n:Int):=by omega
   have q3:min (n:Int) ((L - a:Nat):Int)=(n:Int):=by omega
   have q4:IntKind.i64.wrap ((a:Int)+(n:Int))=((a+n:Nat):Int):=by rw [IntKind.wrap_i64]; omega
   have h4:(a:Int)≤((a+n:Nat):Int):=by omega
   have h5:((a+n:Nat):Int)≤(cap:Int):=by omega
   have h6:(0:Int)≤((a+n:Nat):Int):=by omega
   gi_wp2
   gi_region
   all_goals
    obtain⟨fn,tmps,assign,body,hy,hR⟩:=HY.out k wr.drew (by omega) (HJD.out k wr 1 hS.out.1)
    rw[show chunkI g off n k=#[.slice (some ⟨g,off+a,none⟩) n n] from by
     unfold chunkI
     rw[← ha.out]] at hy
    gi_wp2
    refine hR.mono ?_
    rintro e W3 (⟨rfl,hJ3,hk3⟩ | ⟨rfl,hE⟩)
    rotate_left
    ·have HEE:=hid_of hE
     clear hE
     gi_wp2
     refine bodyPost_ret (results_none rfl _ _ _) rfl ?_
     exact⟨⟨_,rfl⟩,.inr HEE.out⟩
    have c4:W3.cell? ⟨Bn,0,none⟩=some (.int .i64 (n:Int)):=(heap_cell hk3.2 0).trans c2
    have H3:Hid (J (k+1) W3∧BothI Bs Bn W W3):=⟨hJ3,hk3.1.trans hS.out.2.1,hk3.2.trans hS.out.2.2⟩
    have HA:Hid (a+n=n * (k+1)):=by
     show _=_
     rw[Nat.mul_succ,← ha.out]
    clear hJ3 hk3
    gi_wp2
    go_roundw
    case rel=>exact⟨k+1,a+n,by omega,HA,by go_num,H3⟩
    case measure=>simp [intOf]; omega
  ·have hkm:k=m:=by omega
   have haL:¬ a < L:=by have h1:=ha.out; have h2:=HL.out; rw [hkm] at h1; omega
   have d1:decide ((a:Int) < (L:Int))=false:=decide_eq_false (by omega)
   have d2:decide (a < L)=false:=decide_eq_false haL
   have HKM:=hid_of hkm
   clear hkm haL hlt
   gi_wp2
   go_end0
   exact⟨⟨_,rfl⟩,.inl (HKM.out ▸ hS.out.1)⟩
where
 heap_cell {W W':World} {g:Nat} (h:W'.heap[g]?=W.heap[g]?) (j:Nat):W'.cell? ⟨g,j,none⟩=W.cell? ⟨g,j,none⟩:=by
  unfold World.cell?
  rw[h]
end
section
open Go.RowKit
theorem oper_round {l n:Nat} {o:Oper} {a:Act} {w:World} {K:Act→World→Prop} {Q:Exit→Act→World→Prop} (hd:∀ c,o.op≠.defer c) (h:o.wp Tryz.prog a w K Q):o.wpIn (Fence.wide.inRound l) n Tryz.prog a w K Q:=by
 refine⟨fun _ _=>trivial,?_⟩
 rw[Oper.semAt_plain _ _ _ hd]
 unfold Oper.wp at h
 generalize (execOp a.eval o).run Tryz.prog w=r at h ⊢
 cases r with
 | ok x w'=>
  cases x with
  | value v=>exact h
  | skip=>exact h
  | defer d=>exact h
  | enter f args=>exact⟨(fun q=>by cases q),CallsIn.inRound l (callsIn_wide.2 h)⟩
  | row row args=>
   refine⟨(fun q=>by cases q),fun c cs _=>?_⟩
   obtain⟨v,w'',h1,h2⟩:=h c cs
   exact⟨v,w'',h1,stepsIn_wide.2 h2⟩
  | _=>exact (h:False).elim
 | halt x w'=>cases x <;> exact h
theorem any_round {l n:Nat} {ops:Array Oper} {Q:Exit→Act→World→Prop} (hd:∀ o∈ops.toList,∀ c,o.op≠.defer c) (hQ:¬ LetsOut Q):∀ (fuel:Nat) (listed:Array Bool) (a:Act) (w:World),wpAny Tryz.prog .any ops Q fuel listed a w→wpAnyIn (Fence.wide.inRound l) n Tryz.prog .any ops Q fuel listed a w
 | 0,_,_,_,h=>h
 | fuel+1,listed,a,w,h=>by
  refine⟨h.1,fun i hi=>?_⟩
  have h2:=h.2 i hi
  unfold wpOp at h2
  unfold wpOpIn
  cases ho:ops[i]? with
  | none=>
   rw[ho] at h2
   exact any_round hd hQ fuel _ _ _ h2
  | some o=>
   rw[ho] at h2
   have hm:o∈ops.toList:=by
    rw[Array.mem_toList_iff]
    exact Array.mem_of_getElem? ho
   simp only [] at h2 ⊢
   split
   ·rename_i hw
    rw[if_pos hw] at h2
    rcases h2 with h3 | h3
    ·exact Oper.wpIn_mono (fun a w=>any_round hd hQ fuel _ a w) (oper_round (hd o hm) h3)
    ·exact (hQ h3.2).elim
   ·rename_i hw
    rw[if_neg hw] at h2
    exact⟨fun _ _=>trivial,any_round hd hQ fuel _ _ _ h2⟩
theorem region_round {l n id:Nat} {ops:Array Oper} {Q:Exit→Act→World→Prop} {a:Act} {w:World} {S:World→Prop} (hd:∀ o∈ops.toList,∀ c,o.op≠.defer c) (hQ:¬ LetsOut Q)
  (h:wpAnyH Tryz.prog .any ops Q S ops.size (Array.replicate ops.size false) a w.drew):(Code.region id ops true).wpIn (Fence.wide.inRound l) n Tryz.prog Q a w:=
 wpIn_region_any (by kernel_rfl) (any_round hd hQ _ _ _ _ (wpAny_of_held _ _ _ _ h))
end
section
open Go.RowKit Go.Joins ChunkMath
def LikeI (n m:Nat) (f g:Nat→Int):Prop:=n=m∧∀ i,i < n→f i=g i
def LikePost (p:Prop) (w:World) (e:Ending) (w':World):Prop:=∃ b,e=.returned (.bool b)∧(b=true↔p)∧Below w.heap.size w w'
theorem like_no {p:Prop} {w w':World} (h:¬ p) (hb:Below w.heap.size w w'):LikePost p w (.returned (.bool false)) w':=⟨false,rfl,⟨fun e=>(by cases e),fun k=>absurd k h⟩,hb⟩
theorem like_yes {p:Prop} {w w':World} (h:p) (hb:Below w.heap.size w w'):LikePost p w (.returned (.bool true)) w':=⟨true,rfl,⟨fun _=>h,fun _=>rfl⟩,hb⟩
end
section
open Go.RowKit Go.Joins ChunkMath
set_option maxRecDepth 100000 in
set_option maxHeartbeats 1600000 in
theorem likeI_any (a b:Option Addr) (n m c1 c2:Nat) (f g:Nat→Int) (w:World) (ha:Came w a n f) (hb:Came w b m g) (hn:n≤1048576) (hm:m≤1048576):
  Calls Tryz.prog 112 #[.slice a n c1,.slice b m c2] w (LikePost (LikeI n m f g) w):=by
 by_cases h:n=m
 case neg=>
  have HN:Hid (LikePost (LikeI n m f g) w (.returned (.bool false)) w):=like_no (fun k=>h k.1) (Below.refl _ _)
  have d:((n:Int) != (m:Int))=true:=by simp only [bne_iff_ne,ne_eq]; omega
  clear ha hb h
  go_enter Tryz.func112,Tryz.ntmps112
  go_wp2_with fail
  go_ret
  exact HN.out
 subst h
 have HA:=hid_of ha
 have HB:=hid_of hb
 have d:((n:Int) != (n:Int))=false:=by simp
 have H0:Hid (Below w.heap.size w w):=Below.refl _ _
 clear ha hb
 go_enter Tryz.func112,Tryz.ntmps112
 go_wp2_with fail
 go_loopw [13] (fun i w'=>∃ j:Nat,j≤n∧i=.int .i64 j∧Hid (∀ i,i < j→f i=g i)∧Hid (Below w.heap.size w w')) (fun i _=>n - (intOf i).toNat)
 case atStart=>exact⟨0,Nat.zero_le _,rfl,fun i hi=>absurd hi (Nat.not_lt_zero i),H0⟩
 case round=>
  clear H0
  obtain⟨j,hj,rfl,hE,hBj⟩:=hrel
  by_cases hlt:j < n
  ·rcases HA.out with h0 | ⟨g1,o1,rfl,hg,hc⟩
   ·omega
   ·rcases HB.out with h0 | ⟨g2,o2,rfl,hg',hc'⟩
    ·omega
    ·have c0:=(hBj.out.cell (p:=⟨g1,o1+j,none⟩) hg).trans (hc j hlt)
     have c1:=(hBj.out.cell (p:=⟨g2,o2+j,none⟩) hg').trans (hc' j hlt)
     clear hc hc'
     by_cases h1:f j=g j
     ·have d1:(f j != g j)=false:=by simpa using h1
      have HN:Hid (∀ i,i < j+1→f i=g i):=fun i hi=>by
       by_cases e:i=j
       ·rw[e]; exact h1
       ·exact hE.out i (by omega)
      generalize f j=x at *
      generalize g j=y at *
      clear h1
      go_wp2_with fail
      go_quiet (fail)
      have HB2:=hid_of (bdraws hBj.out nq)
      go_wp2_with fail
      go_roundw
      case rel=>exact⟨j+1,by omega,by go_num,HN,HB2⟩
      case measure=>simp [intOf]; omega
     ·have d1:(f j != g j)=true:=by simpa using h1
      have HN:Hid (∀ W,Below w.heap.size w W→LikePost (LikeI n n f g) w (.returned (.bool false)) W):=fun W hW=>like_no (fun k=>h1 (k.2 j hlt)) hW
      generalize f j=x at c0 d1
      generalize g j=y at c1 d1
      clear h1
      go_wp2_with fail
      go_quiet (fail)
      have HB2:=hid_of (bdraws hBj.out nq)
      go_wp2_with fail
      go_ret
      exact HN.out _ HB2.out
  ·obtain rfl:j=n:=by omega
   have HN:Hid (LikePost (LikeI j j f g) w (.returned (.bool true)) wr):=like_yes ⟨rfl,hE.out⟩ hBj.out
   go_wp2_with fail
   go_ret
   exact HN.out
end
section
open Go.RowKit Go.Joins
set_option maxRecDepth 100000 in
set_option maxHeartbeats 1600000 in
theorem tableCover_any (p:Pic) (q:PicA) (v:Nat) (w:World) (hC:Came w q.ca p.cn p.C):
  Calls Tryz.prog 111 #[pngV p q,.int .i64 (v:Int)] w fun e w'=>e=.returned (.int .i64 (coverT p (v:Int)))∧Below w.heap.size w w':=by
 obtain⟨hw,hh,hd,hc',lace,tn,T,cn,C,rw',rh,rc,rd,sn,S,kn,K⟩:=p
 obtain⟨ta,tc,ca,cc,sa,sc,ka,kc⟩:=q
 have HC:Hid (Came w ca cn C):=hC
 have HE:Hid (coverT ⟨hw,hh,hd,hc',lace,tn,T,cn,C,rw',rh,rc,rd,sn,S,kn,K⟩ (v:Int)=if (v:Int) < (cn:Int) then C v else 255):=rfl
 have HB:=hid_of (bstart w (.cells #[.int .i64 hw,.int .i64 hh,.int .i64 hd,.int .i64 hc',.bool lace,.slice ta tn tc,.slice ca cn cc,.int .i64 rw',.int .i64 rh,.int .i64 rc,.int .i64 rd,.slice sa sn sc,.slice ka kn kc] 37))
 rw[HE.out]
 clear hC HE
 show Calls Tryz.prog 111 #[.agg #[.int .i64 hw,.int .i64 hh,.int .i64 hd,.int .i64 hc',.bool lace,.slice ta tn tc,.slice ca cn cc,.int .i64 rw',.int .i64 rh,.int .i64 rc,.int .i64 rd,.slice sa sn sc,.slice ka kn kc],.int .i64 (v:Int)] w _
 by_cases h:v < cn
 ·rw[if_pos (by omega)]
  rcases HC.out with h0 | ⟨g,off,rfl,hg,hc⟩
  ·omega
  ·have c0:=hc v h
   have d:decide ((v:Int) < (cn:Int))=true:=decide_eq_true (by omega)
   have h0:(0:Int)≤(v:Int):=by omega
   have h1:(v:Int) < (cn:Int):=by omega
   generalize C v=x at c0 ⊢
   clear hc HC
   go_enter Tryz.func111,Tryz.ntmps111
   go_wp2_with fail
   go_ret
   exact⟨rfl,HB.out⟩
 ·rw[if_neg (by omega)]
  have d:decide ((v:Int) < (cn:Int))=false:=decide_eq_false (by omega)
  have d2:decide (v < cn)=false:=decide_eq_false h
  clear h HC
  go_enter Tryz.func111,Tryz.ntmps111
  go_wp2_with fail
  go_ret
  exact⟨rfl,HB.out⟩
end
section
open Go.RowKit Go.Joins OutMath PutMath
end
section
open Go.RowKit OutMath PutMath RastMath HeadMath ChunkMath CrcMath
abbrev Q4:=Int×Int×Int×Int
def ddL (f:Nat→Q4):Nat→List Q4
 | 0=>[]
 | i+1=>if f i∈ddL f i then ddL f i else ddL f i ++ [f i]
theorem ddL_succ (f:Nat→Q4) (i:Nat):ddL f (i+1)=if f i∈ddL f i then ddL f i else ddL f i ++ [f i]:=rfl
def plc (f:Nat→Q4) (i:Nat):Nat:=(ddL f (i+1)).idxOf (f i)
theorem ddL_length (f:Nat→Q4) (i:Nat):(ddL f i).length≤i:=by
 induction i with
 | zero=>exact Nat.le_refl _
 | succ i ih=>
  rw[ddL_succ]
  split
  ·omega
  ·simp; omega
theorem ddL_nodup (f:Nat→Q4) (i:Nat):(ddL f i).Nodup:=by
 induction i with
 | zero=>exact List.nodup_nil
 | succ i ih=>
  rw[ddL_succ]
  split
  ·exact ih
  ·rename_i h
   refine List.nodup_append.mpr ⟨ih,by simp,?_⟩
   intro a ha b hb
   simp only [List.mem_singleton] at hb
   subst hb
   exact fun e=>h (e ▸ ha)
theorem ddL_more (f:Nat→Q4) (i d:Nat):∃ r,ddL f (i+d)=ddL f i ++ r:=by
 induction d with
 | zero=>exact⟨[],by simp⟩
 | succ d ih=>
  obtain⟨r,hr⟩:=ih
  rw[← Nat.add_assoc,ddL_succ]
  split
  ·exact⟨r,hr⟩
  ·exact⟨r ++ [f (i+d)],by rw [hr,List.append_assoc]⟩
theorem ddL_here (f:Nat→Q4) (i:Nat):f i∈ddL f (i+1):=by
 rw[ddL_succ]
 split
 ·assumption
 ·simp
theorem plc_old {f:Nat→Q4} {i:Nat} (h:f i∈ddL f i):plc f i=(ddL f i).idxOf (f i):=by
 unfold plc
 rw[ddL_succ,if_pos h]
theorem plc_new {f:Nat→Q4} {i:Nat} (h:f i ∉ ddL f i):plc f i=(ddL f i).length:=by
 unfold plc
 rw[ddL_succ,if_neg h,List.idxOf_append,if_neg h]
 simp
theorem plc_lt (f:Nat→Q4) {i n:Nat} (h:i < n):plc f i < (ddL f n).length:=by
 obtain⟨r,hr⟩:=ddL_more f (i+1) (n - (i+1))
 rw[show i+1+(n - (i+1))=n by omega] at hr
 have h1:plc f i < (ddL f (i+1)).length:=List.idxOf_lt_length_iff.mpr (ddL_here f i)
 rw[hr,List.length_append]
 omega
theorem ddL_grows (f:Nat→Q4) {i n:Nat} (h:i≤n):(ddL f i).length≤(ddL f n).length:=by
 obtain⟨r,hr⟩:=ddL_more f i (n - i)
 rw[show i+(n - i)=n by omega] at hr
 rw[hr,List.length_append]
 omega
theorem dd_many (f:Nat→Q4) (n:Nat):256 < (ddL f n).length↔∃ i,i < n∧255 < plc f i:=by
 constructor
 ·intro h
  induction n with
  | zero=>simp [ddL] at h
  | succ n ih=>
   by_cases hn:f n∈ddL f n
   ·rw[ddL_succ,if_pos hn] at h
    obtain⟨i,hi,hp⟩:=ih h
    exact⟨i,by omega,hp⟩
   ·rw[ddL_succ,if_neg hn,List.length_append] at h
    simp only [List.length_cons,List.length_nil] at h
    by_cases h2:256 < (ddL f n).length
    ·obtain⟨i,hi,hp⟩:=ih h2
     exact⟨i,by omega,hp⟩
    ·exact⟨n,by omega,by rw [plc_new hn]; omega⟩
 ·rintro⟨i,hi,hp⟩
  have:=plc_lt f hi
  omega
def atL (D:List Q4) (q:Q4):Nat→Int
 | 0=>-1
 | m+1=>if D.getD m (0,0,0,0)=q then (m:Int) else atL D q m
theorem atL_none {D:List Q4} {q:Q4} (h:q ∉ D):∀ m,m≤D.length→atL D q m=-1:=by
 intro m hm
 induction m with
 | zero=>rfl
 | succ m ih=>
  unfold atL
  rw[if_neg,ih (by omega)]
  intro e
  rw[List.getD_eq_getElem?_getD,List.getElem?_eq_getElem (by omega)] at e
  exact h (e ▸ List.getElem_mem (by omega))
theorem atL_some {D:List Q4} {q:Q4} (hD:D.Nodup) (h:q∈D):atL D q D.length=(D.idxOf q:Int):=by
 have hlt:=List.idxOf_lt_length_iff.mpr h
 have hget:D[D.idxOf q]'hlt=q:=List.getElem_idxOf hlt
 have key:∀ m,m≤D.length→atL D q m=if D.idxOf q < m then (D.idxOf q:Int) else -1:=by
  intro m hm
  induction m with
  | zero=>simp [atL]
  | succ m ih=>
   unfold atL
   by_cases e:D.getD m (0,0,0,0)=q
   ·rw[if_pos e]
    rw[List.getD_eq_getElem?_getD,List.getElem?_eq_getElem (by omega)] at e
    have hp:=List.pairwise_iff_getElem.mp hD
    have e2:m=D.idxOf q:=by
     rcases Nat.lt_trichotomy m (D.idxOf q) with h1 | h1 | h1
     ·exact absurd (e.trans hget.symm) (hp m (D.idxOf q) (by omega) hlt h1)
     ·exact h1
     ·exact absurd (hget.trans e.symm) (hp (D.idxOf q) m hlt (by omega) h1)
    rw[if_pos (by omega),← e2]
   ·rw[if_neg e,ih (by omega)]
    by_cases h1:D.idxOf q < m
    ·rw[if_pos h1,if_pos (by omega)]
    ·rw[if_neg h1]
     by_cases h2:D.idxOf q < m+1
     ·exfalso
      apply e
      rw[List.getD_eq_getElem?_getD,List.getElem?_eq_getElem (by omega)]
      have:m=D.idxOf q:=by omega
      subst this
      exact hget
     ·rw[if_neg h2]
 rw[key _ (Nat.le_refl _),if_pos hlt]
def tblD (n:Nat):Nat:=if n≤2 then 1 else if n≤4 then 2 else if n≤16 then 4 else 8
def trimC (l:List Int):Nat→Nat
 | 0=>0
 | n+1=>if l.getD n 0=255 then trimC l n else n+1
theorem trimC_le (l:List Int) (n:Nat):trimC l n≤n:=by
 induction n with
 | zero=>exact Nat.le_refl _
 | succ n ih=>
  unfold trimC
  split
  ·omega
  ·exact Nat.le_refl _
def QOk (q:Q4):Prop:=(0≤q.1∧q.1≤65535)∧(0≤q.2.1∧q.2.1≤65535)∧(0≤q.2.2.1∧q.2.2.1≤65535)∧(0≤q.2.2.2∧q.2.2.2≤65535)
def tbL (V:Nat→Q4) (n:Nat):List Rgb3:=(List.range n).map fun j=>((V j).1 / 257,(V j).2.1 / 257,(V j).2.2.1 / 257)
def cvL (V:Nat→Q4) (n:Nat):List Int:=(List.range n).map fun j=>(V j).2.2.2 / 257
theorem tbL_length (V:Nat→Q4) (n:Nat):(tbL V n).length=n:=by simp [tbL]
theorem cvL_length (V:Nat→Q4) (n:Nat):(cvL V n).length=n:=by simp [cvL]
theorem tbL_succ (V:Nat→Q4) (n:Nat):tbL V (n+1)=tbL V n ++ [((V n).1 / 257,(V n).2.1 / 257,(V n).2.2.1 / 257)]:=by simp [tbL,List.range_succ]
theorem cvL_succ (V:Nat→Q4) (n:Nat):cvL V (n+1)=cvL V n ++ [(V n).2.2.2 / 257]:=by simp [cvL,List.range_succ]
end
end Go.Proofs.YtkpbfmdnjnohlaaGreat
