/-
  Texts of the proof, put together.
-/
import Derived.Test.YtklpiihnbokkkaaGreatDoorFk07
namespace Go.Proofs.YtklpiihnbokkkaaGreatDoor
namespace DeflMath
open OutMath CodeMath InfMath PutMath BlockMath BodyMath TokMath SearchMath TrimMath WovenMath PartMath
def sizeL:List Tok→Nat
 | []=>0
 | t :: R=>sizeT t+sizeL R
theorem sizeL_app:∀ A B:List Tok,sizeL (A ++ B)=sizeL A+sizeL B
 | [],B=>by simp [sizeL]
 | t :: R,B=>by
  show sizeT t+sizeL (R ++ B)=sizeT t+sizeL R+sizeL B
  rw[sizeL_app R B]
  omega
theorem app_size {t:Tok} (_ht:TokRight t) (O:List Int):(tokApp O t).length=O.length+sizeT t:=by
 unfold tokApp sizeT
 by_cases h:t.2.1=0
 ·rw[if_pos h,if_pos h,List.length_append,List.length_singleton]
 ·rw[if_neg h,if_neg h,copy_length]
theorem run_size:∀ {L:List Tok} {O F:List Int},run O L=some F→F.length=O.length+sizeL L
 | [],O,F,h=>by cases h; rfl
 | t :: R,O,F,h=>by
  unfold run at h
  split at h
  ·rename_i q
   rw[run_size h,app_size q.1]
   show _=O.length+(sizeT t+sizeL R)
   omega
  ·cases h
theorem run_right:∀ {L:List Tok} {O F:List Int},run O L=some F→∀ t∈L,TokRight t
 | [],_,_,_,t,ht=>by cases ht
 | u :: R,O,F,h,t,ht=>by
  unfold run at h
  split at h
  ·rename_i q
   rcases List.mem_cons.mp ht with rfl | k
   ·exact q.1
   ·exact run_right h t k
  ·cases h
theorem sizeT_pos {t:Tok} (h:TokRight t):1≤sizeT t:=by
 unfold sizeT
 unfold TokRight at h
 split
 ·omega
 ·rename_i q
  rw[if_neg q] at h
  omega
theorem sizeL_le:∀ {L:List Tok},(∀ t∈L,TokRight t)→L.length≤sizeL L
 | [],_=>Nat.le_refl _
 | t :: R,h=>by
  have h1:=sizeT_pos (h t List.mem_cons_self)
  have h2:=sizeL_le fun u hu=>h u (List.mem_cons_of_mem t hu)
  show R.length+1≤sizeT t+sizeL R
  omega
/-! The best of three is never none where a stored block fits. -/
theorem better_some (x:ByteArray×Nat) (y:Option (ByteArray×Nat)):∃ o,better (some x) y=some o∧(o=x∨y=some o)∧o.2≤x.2:=by
 cases y with
 | none=>exact⟨x,rfl,.inl rfl,Nat.le_refl _⟩
 | some z=>
  by_cases h:z.2 < x.2
  ·exact⟨z,if_pos h,.inr rfl,by omega⟩
  ·exact⟨x,if_neg h,.inl rfl,Nat.le_refl _⟩
theorem outSt_some {s:ByteArray} {c:Nat} (ho:outB s (c:Int)=true):outSt s (c:Int)=some (s,c):=by
 unfold outSt
 rw[if_pos ho,Int.toNat_natCast]
theorem storedBits_is01 (c:Nat) (t:ByteArray):Bits01 (storedBits c t):=(fillBits_01 c).append ((pieceBits_01 _ _ _).append ((pieceBits_01 _ _ _).append (byteBits_01 _)))
theorem storedBits_len (c:Nat) (t:ByteArray):(storedBits c t).length≤39+8 * t.size:=by
 unfold storedBits
 simp only [List.length_append,pieceBits_length,byteBits_length,numsOf_length,fillBits_length]
 omega
theorem stored_some {s:ByteArray} {c:Nat} {t:ByteArray} (last:Bool) (ho:outB s (c:Int)=true) (ht:t.size≤2600) (hc:c+42+8 * t.size≤96000):∃ o,storedOut s (c:Int) t last=some o∧o.2≤c+42+8 * t.size∧outB o.1 o.2=true:=by
 have hl:=storedBits_len (c+3) t
 have h01:Bits01 (headBits 0 last ++ storedBits (c+3) t):=(headBits_01 0 last).append (storedBits_is01 _ _)
 have hn:(headBits 0 last ++ storedBits (c+3) t).length≤42+8 * t.size:=by
  rw[List.length_append,headBits_length]
  omega
 have h:=bitsOut_some (bs:=headBits 0 last ++ storedBits (c+3) t) ho (by omega)
 have hr:=bitsOut_right h h01
 refine⟨_,?_,?_,hr.1⟩
 ·unfold storedOut
  rw[if_pos ht,outSt_some ho]
  exact h
 ·rw[hr.2.1]
  show c+_≤_
  omega
theorem fixed_right {s:ByteArray} {c:Nat} {L:List Tok} {last:Bool} {o:ByteArray×Nat} (h:fixedOut s (c:Int) L last=some o):outB o.1 o.2=true:=by
 unfold fixedOut at h
 split at h
 ·cases hs:outSt s (c:Int) with
  | none=>rw [hs] at h; cases h
  | some x=>
   rw[hs] at h
   exact (bitsOut_right (show bitsOut x (headBits 1 last ++ bodyBits fixed1 288 fixed2 32 L)=some o from h) ((headBits_01 _ _).append (partBits_01 _))).1
 ·cases h
theorem woven_right {s:ByteArray} {c:Nat} {L:List Tok} {last:Bool} {o:ByteArray×Nat} (h:wovenOut s (c:Int) L last=some o):outB o.1 o.2=true:=by
 unfold wovenOut at h
 split at h
 ·cases hs:outSt s (c:Int) with
  | none=>rw [hs] at h; cases h
  | some x=>
   rw[hs,Option.bind_some] at h
   have h01:Bits01 (headBits 2 last ++ (partBits (lensP L) ++ bodyBits (lenA L) (sizeA L) (lenB L) (sizeB L) L)):=(headBits_01 _ _).append ((partBits_01 _).append (partBits_01 _))
   generalize headBits 2 last ++ (partBits (lensP L) ++ bodyBits (lenA L) (sizeA L) (lenB L) (sizeB L) L)=bs at h h01
   exact (bitsOut_right h h01).1
 ·cases h
theorem best_some {s:ByteArray} {c:Nat} {t:ByteArray} (L:List Tok) (last:Bool) (ho:outB s (c:Int)=true) (ht:t.size≤2600) (hc:c+42+8 * t.size≤96000):∃ o,bestOut s (c:Int) t L last=some o∧o.2≤c+42+8 * t.size∧outB o.1 o.2=true∧(storedOut s (c:Int) t last=some o∨fixedOut s (c:Int) L last=some o∨wovenOut s (c:Int) L last=some o):=by
 obtain⟨o1,a1,a2,a3⟩:=stored_some last ho ht hc
 obtain⟨o2,b1,b2,b3⟩:=better_some o1 (fixedOut s (c:Int) L last)
 obtain⟨o3,c1,c2,c3⟩:=better_some o2 (wovenOut s (c:Int) L last)
 have e:bestOut s (c:Int) t L last=some o3:=by
  unfold bestOut
  rw[a1,show better none (some o1)=some o1 from rfl,b1,c1]
 refine⟨o3,e,by omega,?_,?_⟩
 ·rcases c2 with rfl | h
  ·rcases b2 with rfl | h
   ·exact a3
   ·exact fixed_right h
  ·exact woven_right h
 ·rcases c2 with rfl | h
  ·rcases b2 with rfl | h
   ·exact .inl a1
   ·exact .inr (.inl h)
  ·exact .inr (.inr h)
/-! The parts. -/
def prt (L:List Tok) (k:Nat):List Tok:=(L.drop (60 * k)).take 60
def off (L:List Tok) (k:Nat):Nat:=sizeL (L.take (60 * k))
def partsN (L:List Tok):Nat:=(L.length+59) / 60
theorem off_zero (L:List Tok):off L 0=0:=by simp [off,sizeL]
theorem off_next (L:List Tok) (k:Nat):off L (k+1)=off L k+sizeL (prt L k):=by
 unfold off prt
 rw[← sizeL_app,show 60 * (k+1)=60 * k+60 by omega,List.take_add]
theorem off_le (L:List Tok) (k:Nat):off L k≤sizeL L:=by
 have h:sizeL L=sizeL (L.take (60 * k))+sizeL (L.drop (60 * k)):=by rw [← sizeL_app,List.take_append_drop]
 unfold off
 omega
theorem off_all {L:List Tok} {k:Nat} (h:L.length≤60 * k):off L k=sizeL L:=by
 unfold off
 rw[List.take_of_length_le h]
theorem off_end {L:List Tok} (hR:∀ t∈L,TokRight t) (k:Nat):off L k=sizeL L↔L.length≤60 * k:=by
 refine⟨fun h=>?_,off_all⟩
 have h1:sizeL L=sizeL (L.take (60 * k))+sizeL (L.drop (60 * k)):=by rw [← sizeL_app,List.take_append_drop]
 have h2:=sizeL_le (L:=L.drop (60 * k)) fun t ht=>hR t (List.mem_of_mem_drop ht)
 rw[List.length_drop] at h2
 unfold off at h
 omega
def lastP (L:List Tok) (k:Nat):Bool:=decide (L.length≤60 * (k+1))
def partsSt (t:ByteArray) (L:List Tok):Nat→Option (ByteArray×Nat)
 | 0=>some (⟨#[]⟩,0)
 | k+1=>(partsSt t L k).bind fun o=>bestOut o.1 (o.2:Int) (t.extract (off L k) (off L (k+1))) (prt L k) (lastP L k)
theorem empty_out:outB ⟨#[]⟩ ((0:Nat):Int)=true:=by decide +kernel
theorem cut_size (t:ByteArray) {a b:Nat} (h:b≤t.size):(t.extract a b).size=b - a:=by
 rw[ByteArray.size_extract]
 omega
theorem parts_some {t:ByteArray} {L:List Tok} (hs:sizeL L=t.size) (ht:t.size≤2600) (hn:L.length≤t.size):∀ k,k≤partsN L→∃ o,partsSt t L k=some o∧outB o.1 o.2=true∧o.2≤42 * k+8 * off L k
 | 0,_=>⟨_,rfl,empty_out,by simp⟩
 | k+1,hk=>by
  obtain⟨o,h1,h2,h3⟩:=parts_some hs ht hn k (by omega)
  have hN:partsN L≤44:=by unfold partsN; omega
  have o1:=off_le L k
  have o2:=off_le L (k+1)
  have o3:=off_next L k
  have hz:(t.extract (off L k) (off L (k+1))).size=off L (k+1) - off L k:=cut_size t (by omega)
  obtain⟨o',e1,e2,e3,_⟩:=best_some (prt L k) (lastP L k) h2 (t:=t.extract (off L k) (off L (k+1))) (by omega) (by omega)
  refine⟨o',?_,e3,by omega⟩
  show (partsSt t L k).bind _=_
  rw[h1]
  exact e1
def shorter (a b:ByteArray):ByteArray:=if b.size < a.size then b else a
def packC (t:ByteArray) (L:List Tok):ByteArray:=shorter (blkS (bestOut ⟨#[]⟩ 0 t L true)) (if L=[] then blkS (bestOut ⟨#[]⟩ 0 t L true) else blkS (partsSt t L (partsN L)))
theorem packC_few {t:ByteArray} {L:List Tok} (hs:sizeL L=t.size) (h:L.length≤60):packC t L=blkS (bestOut ⟨#[]⟩ 0 t L true):=by
 unfold packC
 by_cases h0:L=[]
 ·rw[if_pos h0]
  unfold shorter
  rw[if_neg (by omega)]
 ·rw[if_neg h0]
  have hp:0 < L.length:=List.length_pos_iff.mpr h0
  have hN:partsN L=1:=by unfold partsN; omega
  have e:partsSt t L 1=bestOut ⟨#[]⟩ 0 t L true:=by
   show (partsSt t L 0).bind _=_
   show bestOut ⟨#[]⟩ 0 (t.extract (off L 0) (off L 1)) (prt L 0) (lastP L 0)=_
   rw[off_zero,off_all (k:=1) (by omega),hs,show lastP L 0=true from decide_eq_true (by omega),ByteArray.extract_zero_size]
   unfold prt
   rw[Nat.mul_zero,List.drop_zero,List.take_of_length_le h]
  rw[hN,e]
  unfold shorter
  rw[if_neg (by omega)]
theorem packC_many {t:ByteArray} {L:List Tok} (h:60 < L.length):packC t L=shorter (blkS (bestOut ⟨#[]⟩ 0 t L true)) (blkS (partsSt t L (partsN L))):=by
 unfold packC
 rw[if_neg (by intro q; rw [q] at h; cases h)]
end DeflMath
end Go.Proofs.YtklpiihnbokkkaaGreatDoor

namespace Go.Proofs.YtklpiihnbokkkaaGreatDoor
open Go.RowKit Go.Joins TokMath
theorem TCame.grown {w w':World} {a:Option Addr} {n B:Nat} {F:Nat→Tok} {row:Option Nat} (h:TCame w a n F) (hB:∀ g off,a=some ⟨g,off,none⟩→g < B) (hr:∀ k,row=some k→B≤k) (hg:w.grownBy w' row):TCame w' a n F:=by
 rcases h with h | ⟨g,off,ha,hlt,hc⟩
 ·exact .inl h
 ·have hne:some g≠row:=fun e=>by have h1:=hB g off ha; have h2:=hr g e.symm; omega
  have hb:=hg.block g hlt hne
  exact .inr ⟨g,off,ha,Nat.lt_of_lt_of_le hlt hg.size,fun j hj=>⟨(World.cell?_of_block (w:=w) hb).trans (hc j hj).1,(World.cell?_of_block (w:=w) hb).trans (hc j hj).2.1,(World.cell?_of_block (w:=w) hb).trans (hc j hj).2.2⟩⟩
theorem TOwn.free {w:World} {base g n:Nat} {F:Nat→Tok} (h:TOwn w base g n F) (k:Nat):w.frozen? ⟨g,k,none⟩=false:=by
 obtain⟨_,cur,h2,_⟩:=h
 simp[World.frozen?,h2]
def updT (F:Nat→Tok) (j:Nat) (t:Tok):Nat→Tok:=fun i=>if i=j then t else F i
theorem TOwn.set {w:World} {base g n:Nat} {F:Nat→Tok} (h:TOwn w base g n F) (j:Nat) (hj:j < n) (x y z:Int):TOwn (((w.setCell ⟨g,j * 3,none⟩ (.int .i64 x)).setCell ⟨g,j * 3+1,none⟩ (.int .i64 y)).setCell ⟨g,j * 3+2,none⟩ (.int .i64 z)) base g n (updT F j (x,y,z)):=by
 obtain⟨h1,cur,h2,h3,h4⟩:=h
 refine⟨h1,((cur.setIfInBounds (j * 3) (.int .i64 x)).setIfInBounds (j * 3+1) (.int .i64 y)).setIfInBounds (j * 3+2) (.int .i64 z),?_,by simpa using h3,fun i hi=>?_⟩
 ·simp[World.setCell,Array.getElem?_modify,h2]
 ·obtain⟨k1,k2,k3⟩:=h4 i hi
  unfold updT
  by_cases e:i=j
  ·subst e
   rw[if_pos rfl]
   refine⟨?_,?_,?_⟩
   ·rw[Array.getElem?_setIfInBounds_ne (by omega),Array.getElem?_setIfInBounds_ne (by omega),Array.getElem?_setIfInBounds_self_of_lt (by omega)]
   ·rw[Array.getElem?_setIfInBounds_ne (by omega),Array.getElem?_setIfInBounds_self_of_lt (by simp; omega)]
   ·rw[Array.getElem?_setIfInBounds_self_of_lt (by simp; omega)]
  ·rw[if_neg e]
   refine⟨?_,?_,?_⟩
   ·rw[Array.getElem?_setIfInBounds_ne (by omega),Array.getElem?_setIfInBounds_ne (by omega),Array.getElem?_setIfInBounds_ne (by omega)]; exact k1
   ·rw[Array.getElem?_setIfInBounds_ne (by omega),Array.getElem?_setIfInBounds_ne (by omega),Array.getElem?_setIfInBounds_ne (by omega)]; exact k2
   ·rw[Array.getElem?_setIfInBounds_ne (by omega),Array.getElem?_setIfInBounds_ne (by omega),Array.getElem?_setIfInBounds_ne (by omega)]; exact k3
theorem TOwn.congr {w:World} {base g n:Nat} {F G:Nat→Tok} (h:TOwn w base g n F) (e:∀ j,j < n→F j=G j):TOwn w base g n G:=by
 obtain⟨h1,cur,h2,h3,h4⟩:=h
 exact⟨h1,cur,h2,h3,fun j hj=>by rw [← e j hj]; exact h4 j hj⟩
theorem TOwn.grown {w w':World} {base g n:Nat} {F:Nat→Tok} {row:Option Nat} (h:TOwn w base g n F) (hg:w.grownBy w' row) (hne:row≠some g):TOwn w' base g n F:=h.keep (hg.block g h.lt (Ne.symm hne))
def TSL (w:World) (base:Nat) (a:Option Addr) (n:Nat) (F:Nat→Tok):Prop:=n=0∨∃ g,a=some ⟨g,0,none⟩∧TOwn w base g n F
theorem TSL.came {w:World} {base:Nat} {a:Option Addr} {n:Nat} {F:Nat→Tok} (h:TSL w base a n F):TCame w a n F:=by
 rcases h with h | ⟨g,rfl,h⟩
 ·exact .inl h
 ·exact h.came
theorem TSL.called {w w':World} {base:Nat} {a:Option Addr} {n:Nat} {F:Nat→Tok} (h:TSL w base a n F) (hb:Below w.heap.size w w'):TSL w' base a n F:=by
 rcases h with h | ⟨g,rfl,h⟩
 ·exact .inl h
 ·exact .inr ⟨g,rfl,h.called hb⟩
theorem tsl_of_own {w:World} {S n:Nat} {v:Value} {L:List Tok} (h:w.ownsRow S 105 3 v n (tcells L)) (hn:n=L.length):∃ a c,v=.slice a L.length c∧L.length≤c∧TSL w S a L.length (fun j=>L.getD j (0,0,0)):=by
 subst hn
 rcases h.2 with ⟨rfl,h0⟩ | ⟨g,cap,cur,rfl,hb,hg,hc,hm,hs,ht⟩
 ·exact⟨none,0,by rw [h0],by omega,.inl h0⟩
 ·refine⟨_,cap,rfl,hc,.inr ⟨g,rfl,hb,cur,hg,by omega,fun j hj=>?_⟩⟩
  have q:=tcells_get L j hj
  have k1:=h.cellAt (j * 3) (by omega)
  have k2:=h.cellAt (j * 3+1) (by omega)
  have k3:=h.cellAt (j * 3+2) (by omega)
  rw[cell_of_block hg] at k1 k2 k3
  rw[k1,k2,k3]
  exact q
end Go.Proofs.YtklpiihnbokkkaaGreatDoor

namespace Go.Proofs.YtklpiihnbokkkaaGreatDoor.CheapMath
open TokMath StepMath SearchMath
def costT (t:Tok):Int:=if t.2.1=0 then (if t.1 < 144 then 8 else 9) else (if (LengthCodeOf t.2.1).1 < 280 then 7 else 8)+(LengthCodeOf t.2.1).2.1+5+(DistCodeOf t.2.2).2.1
theorem cost_byte (x z:Int):costT (x,0,z)=if x < 144 then 8 else 9:=rfl
theorem cost_range (t:Tok):0≤costT t∧costT t≤31:=by
 unfold costT
 split
 ·split <;> omega
 ·have h1:0≤(LengthCodeOf t.2.1).2.1∧(LengthCodeOf t.2.1).2.1≤5:=by
   by_cases h:3≤t.2.1∧t.2.1≤258
   ·have:=len_back h.1 h.2
    exact⟨this.2.2.2.2.2.1,this.2.2.2.2.2.2⟩
   ·unfold LengthCodeOf
    rw[if_neg h]
    exact⟨by show (0:Int)≤0; omega,by show (0:Int)≤5; omega⟩
  have h2:0≤(DistCodeOf t.2.2).2.1∧(DistCodeOf t.2.2).2.1≤13:=by
   by_cases h:1≤t.2.2∧t.2.2≤32768
   ·have:=dist_back h.1 h.2
    exact⟨this.2.2.2.2.2.1,this.2.2.2.2.2.2⟩
   ·unfold DistCodeOf
    rw[if_neg h]
    exact⟨by show (0:Int)≤0; omega,by show (0:Int)≤13; omega⟩
  split <;> omega
section
variable (f:Nat→Nat) (N chain:Nat)
def pickK (C:Nat→Int) (at' d:Nat) (acc:Int×Tok):Nat→Int×Tok
 | 0=>acc
 | m+1=>if costT (0,((3+m:Nat):Int),(d:Int))+C (at'+(3+m)) < (pickK C at' d acc m).1 then (costT (0,((3+m:Nat):Int),(d:Int))+C (at'+(3+m)),(0,((3+m:Nat):Int),(d:Int))) else pickK C at' d acc m
def entry (C:Nat→Int) (at':Nat):Int×Tok:=pickK C at' (bestM f N at' chain).2 (costT ((f at':Int),0,0)+C (at'+1),((f at':Int),0,0)) ((bestM f N at' chain).1 - 2)
def tab:Nat→Nat→Int×Tok
 | 0,_=>(0,(0,0,0))
 | m+1,i=>if i=N - (m+1) then entry f N chain (fun j=>(tab m j).1) i else tab m i
def costAt (i:Nat):Int:=(tab f N chain N i).1
def takeAt (i:Nat):Tok:=(tab f N chain N i).2
end
section
variable {f:Nat→Nat} {N chain:Nat}
theorem pickK_congr {C C':Nat→Int} {at' d:Nat} {acc:Int×Tok}:∀ m,(∀ j,j < m→C (at'+(3+j))=C' (at'+(3+j)))→pickK C at' d acc m=pickK C' at' d acc m
 | 0,_=>rfl
 | m+1,h=>by
  unfold pickK
  rw[pickK_congr m (fun j hj=>h j (by omega)),h m (Nat.lt_succ_self m)]
theorem entry_congr {C C':Nat→Int} {at':Nat} (h:∀ j,at' < j→C j=C' j):entry f N chain C at'=entry f N chain C' at':=by
 unfold entry
 rw[h (at'+1) (by omega),pickK_congr _ (fun j _=>h _ (by omega))]
theorem tab_past:∀ m i,N≤i→m≤N→tab f N chain m i=(0,(0,0,0))
 | 0,_,_,_=>rfl
 | m+1,i,h,hm=>by
  unfold tab
  rw[if_neg (by omega)]
  exact tab_past m i h (by omega)
theorem tab_stay:∀ d m i,N - m≤i→m+d≤N→tab f N chain (m+d) i=tab f N chain m i
 | 0,_,_,_,_=>rfl
 | d+1,m,i,h,hm=>by
  show (if i=N - (m+d+1) then entry f N chain (fun j=>(tab f N chain (m+d) j).1) i else tab f N chain (m+d) i)=_
  rw[if_neg (by omega)]
  exact tab_stay d m i h (by omega)
theorem tab_done {m i:Nat} (h:N - m≤i) (hm:m≤N):tab f N chain N i=tab f N chain m i:=by
 obtain⟨d,rfl⟩:=Nat.exists_eq_add_of_le hm
 exact tab_stay d m i h (Nat.le_refl _)
theorem tab_entry {i:Nat} (h:i < N):tab f N chain N i=entry f N chain (costAt f N chain) i:=by
 have h1:tab f N chain N i=tab f N chain (N - 1 - i+1) i:=tab_done (by omega) (by omega)
 rw[h1]
 show (if i=N - (N - 1 - i+1) then entry f N chain (fun j=>(tab f N chain (N - 1 - i) j).1) i else _)=_
 rw[if_pos (by omega)]
 exact entry_congr (fun j hj=>by
  show (tab f N chain (N - 1 - i) j).1=(tab f N chain N j).1
  rw[tab_done (m:=N - 1 - i) (by omega) (by omega)])
theorem cost_past {i:Nat} (h:N≤i):costAt f N chain i=0:=by
 unfold costAt
 rw[tab_past N i h (Nat.le_refl _)]
def Opt (f:Nat→Nat) (N chain at':Nat) (t:Tok):Prop:=t=((f at':Int),0,0)∨∃ k,3≤k∧k≤(bestM f N at' chain).1∧t=(0,(k:Int),((bestM f N at' chain).2:Int))
theorem opt_fine {at':Nat} {t:Tok} (h:Opt f N chain at' t):Fine f N at' t:=by
 rcases h with rfl | ⟨k,h3,hk,rfl⟩
 ·exact .inl rfl
 ·have hr:=best_rep (f:=f) (N:=N) (at':=at') (chain:=chain) (by omega)
  obtain⟨h1,h2,h4,h5⟩:=hr
  exact .inr ⟨k,_,rfl,⟨h3,by omega⟩,h2,by omega,fun i hi=>h5 i (by omega)⟩
theorem pickK_is (C:Nat→Int) (at' d:Nat) (acc:Int×Tok):∀ m,pickK C at' d acc m=acc∨∃ k,3≤k∧k < 3+m∧pickK C at' d acc m=(costT (0,(k:Int),(d:Int))+C (at'+k),(0,(k:Int),(d:Int)))
 | 0=>.inl rfl
 | m+1=>by
  unfold pickK
  split
  ·exact .inr ⟨3+m,by omega,by omega,rfl⟩
  ·rcases pickK_is C at' d acc m with h | ⟨k,h1,h2,h⟩
   ·exact .inl h
   ·exact .inr ⟨k,h1,by omega,h⟩
theorem pickK_le (C:Nat→Int) (at' d:Nat) (acc:Int×Tok):∀ m,(pickK C at' d acc m).1≤acc.1∧∀ k,3≤k→k < 3+m→(pickK C at' d acc m).1≤costT (0,(k:Int),(d:Int))+C (at'+k)
 | 0=>⟨Int.le_refl _,fun k h1 h2=>by omega⟩
 | m+1=>by
  obtain⟨h1,h2⟩:=pickK_le C at' d acc m
  unfold pickK
  split
  ·rename_i q
   refine⟨?_,fun k k1 k2=>?_⟩
   ·show costT (0,((3+m:Nat):Int),(d:Int))+C (at'+(3+m))≤acc.1
    omega
   ·show costT (0,((3+m:Nat):Int),(d:Int))+C (at'+(3+m))≤_
    rcases Nat.lt_or_ge k (3+m) with k3 | k3
    ·have:=h2 k k1 k3
     omega
    ·have:k=3+m:=by omega
     subst this
     exact Int.le_refl _
  ·rename_i q
   refine⟨h1,fun k k1 k2=>?_⟩
   rcases Nat.lt_or_ge k (3+m) with k3 | k3
   ·exact h2 k k1 k3
   ·have:k=3+m:=by omega
    subst this
    omega
theorem take_is {i:Nat} (h:i < N):Opt f N chain i (takeAt f N chain i)∧costAt f N chain i=costT (takeAt f N chain i)+costAt f N chain (i+sizeT (takeAt f N chain i)):=by
 have e:=tab_entry (f:=f) (chain:=chain) h
 unfold entry at e
 have e1:costAt f N chain i=(tab f N chain N i).1:=rfl
 have e2:takeAt f N chain i=(tab f N chain N i).2:=rfl
 rcases pickK_is (costAt f N chain) i (bestM f N i chain).2 (costT ((f i:Int),0,0)+costAt f N chain (i+1),((f i:Int),0,0)) ((bestM f N i chain).1 - 2) with q | ⟨k,h1,h2,q⟩
 ·rw[q] at e
  rw[e1,e2,e]
  exact⟨.inl rfl,rfl⟩
 ·rw[q] at e
  rw[e1,e2,e]
  refine⟨.inr ⟨k,h1,by omega,rfl⟩,?_⟩
  show costT (0,(k:Int),((bestM f N i chain).2:Int))+costAt f N chain (i+k)=costT (0,(k:Int),((bestM f N i chain).2:Int))+costAt f N chain (i+sizeT (0,(k:Int),((bestM f N i chain).2:Int)))
  rw[size_rep _ _ (by omega)]
theorem take_least {i:Nat} (h:i < N) {t:Tok} (ht:Opt f N chain i t):costAt f N chain i≤costT t+costAt f N chain (i+sizeT t):=by
 have e:=tab_entry (f:=f) (chain:=chain) h
 unfold entry at e
 have e1:costAt f N chain i=(tab f N chain N i).1:=rfl
 obtain⟨q1,q2⟩:=pickK_le (costAt f N chain) i (bestM f N i chain).2 (costT ((f i:Int),0,0)+costAt f N chain (i+1),((f i:Int),0,0)) ((bestM f N i chain).1 - 2)
 rw[e1,e]
 rcases ht with rfl | ⟨k,h1,h2,rfl⟩
 ·exact q1
 ·rw[size_rep _ _ (by omega)]
  exact q2 k h1 (by omega)
theorem opt_size {c:Nat→Tok} (hc:∀ i,i < N→Opt f N chain i (c i)):∀ i,i < N→1≤sizeT (c i):=fun i hi=>(fine_size (opt_fine (hc i hi)) hi).1
theorem take_opt:∀ i,i < N→Opt f N chain i (takeAt f N chain i):=fun _ hi=>(take_is hi).1
theorem bytes_cost:∀ m at',N - at'=m→costAt f N chain at'≤9 * ((N - at':Nat):Int):=by
 intro m
 induction m with
 | zero=>
  intro at' hm
  rw[cost_past (by omega)]
  omega
 | succ m ih=>
  intro at' hm
  have h1:=take_least (f:=f) (chain:=chain) (show at' < N by omega) (.inl rfl)
  have h2:=ih (at'+1) (by omega)
  rw[size_byte,cost_byte] at h1
  split at h1 <;> omega
theorem take_fine {i:Nat} (h:i < N):Fine f N i (takeAt f N chain i):=opt_fine (take_opt i h)
theorem cost_small:∀ m at',N - at'=m→0≤costAt f N chain at'∧costAt f N chain at'≤9 * (m:Int):=by
 intro m
 induction m using Nat.strongRecOn with
 | _ m ih=>
  intro at' hm
  refine⟨?_,by have:=bytes_cost (f:=f) (chain:=chain) m at' hm; omega⟩
  by_cases h:at' < N
  ·obtain⟨h1,h2⟩:=take_is (f:=f) (chain:=chain) h
   have h3:=opt_size (take_opt (f:=f) (N:=N) (chain:=chain)) at' h
   have h4:=(ih (N - (at'+sizeT (takeAt f N chain at'))) (by omega) (at'+sizeT (takeAt f N chain at')) rfl).1
   have h5:=(cost_range (takeAt f N chain at')).1
   omega
  ·rw[cost_past (by omega)]
   exact Int.le_refl _
end
end Go.Proofs.YtklpiihnbokkkaaGreatDoor.CheapMath

namespace Go.Proofs.YtklpiihnbokkkaaGreatDoor
open Go.RowKit TokMath SearchMath
def txt (s:ByteArray) (i:Nat):Nat:=(s.data[i]?.getD 0).toNat
theorem txt_lt (s:ByteArray) (i:Nat):txt s i < 256:=UInt8.toNat_lt _
theorem txt_get (s:ByteArray) (i:Nat) (h:i < s.size):(s[i]'h).toNat=txt s i:=by
 unfold txt
 have h':i < s.data.size:=h
 rw[Array.getElem?_eq_getElem h']
 rfl
end Go.Proofs.YtklpiihnbokkkaaGreatDoor

namespace Go.Proofs.YtklpiihnbokkkaaGreatDoor
open Go.RowKit TokMath SearchMath CheapMath
def WayRight (s:ByteArray) (c:Int):Prop:=s.size≤2600∧1≤c∧c≤64
def greedyL (s:ByteArray) (c:Int):List Tok:=wayL (greedyC (txt s) s.size c.toNat) s.size 0
def lazyL (s:ByteArray) (c:Int):List Tok:=wayL (lazyC (txt s) s.size c.toNat) s.size 0
def cheapL (s:ByteArray) (c:Int):List Tok:=wayL (takeAt (txt s) s.size c.toNat) s.size 0
def WayPost (L:List Tok) (w:World) (e:Ending) (w':World):Prop:=∃ (a:Option Addr) (cap:Nat),e=.returned (.tuple #[.slice a L.length cap,.bool true])∧TSL w' w.heap.size a L.length (fun j=>L.getD j (0,0,0))∧L.length≤cap∧Below w.heap.size w w'
def WayNone (w:World) (e:Ending) (w':World):Prop:=∃ (a:Option Addr) (cap:Nat),e=.returned (.tuple #[.slice a 0 cap,.bool false])∧(∀ g off,a=some ⟨g,off,none⟩→g < w'.heap.size)∧Below w.heap.size w w'
def WayAnswer (F : Nat) (way : ByteArray → Int → List Tok) : Prop := ∀ (s : ByteArray) (c : Int) (w : World), s.size ≤ 1048576 → (Lit.int .i64 c).wf = true →
    (WayRight s c → Calls Tryz.prog F #[.string s, .int .i64 c] w (WayPost (way s c) w)) ∧ (¬ WayRight s c → Calls Tryz.prog F #[.string s, .int .i64 c] w (WayNone w))
def GreedyAnswer:Prop:=WayAnswer 51 greedyL
def LazyAnswer:Prop:=WayAnswer 53 lazyL
def CheapAnswer:Prop:=WayAnswer 55 cheapL
theorem greedyL_length (s:ByteArray) (c:Int):(greedyL s c).length≤s.size:=by
 have:=way_length (c:=greedyC (txt s) s.size c.toNat) (N:=s.size) (fun i hi=>(fine_size (greedy_fine _ _ _ i) hi).1) s.size 0 rfl
 exact this
theorem lazyL_length (s:ByteArray) (c:Int):(lazyL s c).length≤s.size:=by
 have:=way_length (c:=lazyC (txt s) s.size c.toNat) (N:=s.size) (fun i hi=>(fine_size (lazy_fine _ _ _ i) hi).1) s.size 0 rfl
 exact this
theorem cheapL_length (s:ByteArray) (c:Int):(cheapL s c).length≤s.size:=by
 have:=way_length (c:=takeAt (txt s) s.size c.toNat) (N:=s.size) (fun i hi=>(fine_size (take_fine hi) hi).1) s.size 0 rfl
 exact this
end Go.Proofs.YtklpiihnbokkkaaGreatDoor

namespace Go.Proofs.YtklpiihnbokkkaaGreatDoor
open Go.RowKit TokMath SearchMath CheapMath DeflMath
def deflT (t:ByteArray) (lv:Nat):ByteArray:=
 if lv=0 then blkS (storedOut ⟨#[]⟩ 0 t true)
 else if lv=1 then blkS (fixedOut ⟨#[]⟩ 0 (greedyL t 4) true)
 else if lv=2 then blkS (bestOut ⟨#[]⟩ 0 t (lazyL t 16) true)
 else packC t (cheapL t 64)
def DeflRight (t:ByteArray) (lv:Int):Prop:=t.size≤2600∧0≤lv∧lv≤3
instance (t:ByteArray) (lv:Int):Decidable (DeflRight t lv):=inferInstanceAs (Decidable (_∧_∧_))
def deflAns (t:ByteArray) (lv:Int):Value:=if DeflRight t lv then .tuple #[.string (deflT t lv.toNat),.bool true] else .tuple #[.string ⟨#[]⟩,.bool false]
def DeflateAnswer:Prop:=∀ (t:ByteArray) (lv:Int) (w:World),t.size≤1048576→(Lit.int .i64 lv).wf=true→OrderG w→
 Calls Tryz.prog 10 #[.string t,.int .i64 lv] w fun e w'=>e=.returned (deflAns t lv)∧Below w.heap.size w w'
end Go.Proofs.YtklpiihnbokkkaaGreatDoor

namespace Go.Proofs.YtklpiihnbokkkaaGreatDoor
open Go.RowKit BigTextMath DeflMath OutMath
def headN (lv:Nat):Int:=if lv=0 then 30721 else if lv=1 then 30814 else if lv=2 then 30876 else 30938
def zlibT (t:ByteArray) (lv:Nat):ByteArray:=strOfNums (low (headN lv) 2) ++ deflT t lv ++ strOfNums (low (AdlerMath.adler 1 t) 4)
def zlibAns (t:ByteArray) (lv:Int):Value:=if DeflRight t lv then .tuple #[.string (zlibT t lv.toNat),.bool true] else .tuple #[.string ⟨#[]⟩,.bool false]
def ZlibAnswer:Prop:=∀ (t:ByteArray) (lv:Int) (w:World),t.size≤1048576→(Lit.int .i64 lv).wf=true→OrderG w→
 Calls Tryz.prog 12 #[.string t,.int .i64 lv] w fun e w'=>e=.returned (zlibAns t lv)∧Below w.heap.size w w'
theorem headN_range (lv:Nat):30720≤headN lv∧headN lv < 30976:=by
 unfold headN
 repeat' split
 all_goals omega
theorem adler_range (t:ByteArray):0≤AdlerMath.adler 1 t∧AdlerMath.adler 1 t < 4294967296:=by
 have hp:=AdlerMath.adP_bd t (1 % 65536 % 65521) (by omega) (by omega) t.size
 have hq:=AdlerMath.adQ_bd t (1 % 65536 % 65521) (1 / 65536 % 65521) (by omega) (by omega) t.size
 unfold AdlerMath.adler
 omega
theorem blkS_size {o:Option (ByteArray×Nat)} (h:∀ x,o=some x→outB x.1 x.2=true):(blkS o).size≤12000:=by
 cases o with
 | none=>exact Nat.zero_le _
 | some x=>exact (fits_of_outB _ _ (h x rfl)).1
theorem best_size (t:ByteArray) (L:List TokMath.Tok) (ht:t.size≤2600):(blkS (bestOut ⟨#[]⟩ 0 t L true)).size≤12000:=by
 obtain⟨o,ho,_,hr,_⟩:=best_some (s:=⟨#[]⟩) (c:=0) (t:=t) L true empty_out ht (by omega)
 refine blkS_size fun x hx=>?_
 rw[show ((0:Nat):Int)=0 from rfl] at ho
 rw[ho] at hx
 cases hx
 exact hr
theorem deflT_size (t:ByteArray) (lv:Nat) (ht:t.size≤2600):(deflT t lv).size≤12000:=by
 unfold deflT
 split
 ·obtain⟨o,ho,_,hr⟩:=stored_some (s:=⟨#[]⟩) (c:=0) (t:=t) true empty_out ht (by omega)
  refine blkS_size fun x hx=>?_
  rw[show ((0:Nat):Int)=0 from rfl] at ho
  rw[ho] at hx
  cases hx
  exact hr
 ·split
  ·exact blkS_size fun x hx=>fixed_right (c:=0) hx
  ·split
   ·exact best_size t _ ht
   ·have hb:=best_size t (cheapL t 64) ht
    unfold packC
    generalize (if cheapL t 64=[] then blkS (bestOut ⟨#[]⟩ 0 t (cheapL t 64) true) else blkS (partsSt t (cheapL t 64) (partsN (cheapL t 64))))=y
    unfold shorter
    split
    ·omega
    ·exact hb
end Go.Proofs.YtklpiihnbokkkaaGreatDoor

namespace Go.Proofs.YtklpiihnbokkkaaGreatDoor
open Go.RowKit Go.Joins AdlerMath
theorem newAdler_any (x:Int) (w:World) (h0:0≤x) (h1:x≤4294967295):
  Calls Tryz.prog 28 #[.int .u32 x] w fun e w'=>e=.returned (.agg #[.int .i64 (x % 65536 % 65521),.int .i64 (x / 65536 % 65521)])∧Below w.heap.size w w':=by
 have k:=and_low x h0 h1
 go_enter Tryz.func28,Tryz.ntmps28
 go_wp2
 exact bodyPost_ret (v:=.agg #[.int .i64 (x % 65536 % 65521),.int .i64 (x / 65536 % 65521)]) (by simp [results,Tryz.results28,go_sem]) rfl ⟨rfl,bstart _ _⟩
def Ad (w:World) (b:Nat) (p q:Int):Prop:=w.heap[b]?=some (.cells #[.int .i64 p,.int .i64 q] 57 (0,0))
theorem Ad.c0 {w:World} {b:Nat} {p q:Int} (h:Ad w b p q):w.cell? ⟨b,0,none⟩=some (.int .i64 p):=cell_of_block h 0
theorem Ad.c1 {w:World} {b:Nat} {p q:Int} (h:Ad w b p q):w.cell? ⟨b,1,none⟩=some (.int .i64 q):=cell_of_block h 1
theorem Ad.f {w:World} {b:Nat} {p q:Int} (h:Ad w b p q) (i:Nat):w.frozen? ⟨b,i,none⟩=false:=unfrozen_of_block h i
theorem Ad.set0 {w:World} {b:Nat} {p q:Int} (h:Ad w b p q) (x:Int):Ad (w.setCell ⟨b,0,none⟩ (.int .i64 x)) b x q:=by
 have:=block_setCell (i:=0) h (.int .i64 x)
 simpa [Ad] using this
theorem Ad.set1 {w:World} {b:Nat} {p q:Int} (h:Ad w b p q) (x:Int):Ad (w.setCell ⟨b,1,none⟩ (.int .i64 x)) b p x:=by
 have:=block_setCell (i:=1) h (.int .i64 x)
 simpa [Ad] using this
theorem Ad.drew {w:World} {b:Nat} {p q:Int} (h:Ad w b p q) (n:Nat):Ad (w.drewN n) b p q:=h
theorem Ad.drew1 {w:World} {b:Nat} {p q:Int} (h:Ad w b p q):Ad w.drew b p q:=h
theorem Ad.lt {w:World} {b:Nat} {p q:Int} (h:Ad w b p q):b < w.heap.size:=by
 rcases Nat.lt_or_ge b w.heap.size with k | k
 ·exact k
 ·unfold Ad at h; rw [Array.getElem?_eq_none k] at h; cases h
set_option maxHeartbeats 400000 in
theorem adlerWord (p q:Int) (b:Nat) (w:World) (hA:Ad w b p q) (h0:0≤p) (h1:p < 65521) (h2:0≤q) (h3:q < 65521):
  Calls Tryz.prog 33 #[.pointer (some ⟨b,0,none⟩)] w fun e w'=>e=.returned (.int .u32 (q * 65536+p))∧Below w.heap.size w w':=by
 have c0:=hA.c0
 have c1:=hA.c1
 have hb:=hA.lt
 have f0:=hA.f
 have k:=or_word p q h0 h1 h2 h3
 clear hA
 go_enter Tryz.func33,Tryz.ntmps33
 go_wp2
 go_region
 all_goals
  go_wp2
  go_ret
  exact⟨rfl,(Below.refl _ _).drew⟩
end Go.Proofs.YtklpiihnbokkkaaGreatDoor

namespace Go.Proofs.YtklpiihnbokkkaaGreatDoor
open Go.RowKit Go.Joins AdlerMath
set_option maxHeartbeats 800000 in
theorem adlerTake (p q:Int) (s:ByteArray) (b:Nat) (w:World) (hA:Ad w b p q) (h0:0≤p) (h1:p < 65521) (h2:0≤q) (h3:q < 65521) (hs:s.size≤1048576):
  Calls Tryz.prog 32 #[.pointer (some ⟨b,0,none⟩),.string s] w fun e w'=>e=.returned (.tuple #[])∧Ad w' b (adP s p s.size) (adQ s p q s.size)∧Below b w w':=by
 go_enter Tryz.func32,Tryz.ntmps32
 go_wp2
 go_loopw [7] (fun i w'=>∃ j:Nat,j≤s.size∧i=.int .i64 j∧Ad w' b (adP s p j) (adQ s p q j)∧Below b w w') (fun i _=>s.size - (intOf i).toNat)
 case atStart=>exact⟨0,Nat.zero_le _,rfl,hA,Below.refl _ _⟩
 case round=>
  obtain⟨j,hj,rfl,hA1,hb1⟩:=hrel
  have hp:=adP_bd s p h0 h1 j
  have hp1:=adP_bd s p h0 h1 (j+1)
  have hq:=adQ_bd s p q h2 h3 j
  by_cases hlt:j < s.size
  ·have hu:=byteAt_lt s j
   have HB:Hid ((s[j]'hlt).toNat=byteAt s j):=byteAt_get s j hlt
   have hb2:(s[j]'hlt).toNat < 256:=UInt8.toNat_lt _
   have HP:Hid (adP s p (j+1)=(adP s p j+(byteAt s j:Int)) % 65521):=adP_succ _ _ _
   have HQ:Hid (adQ s p q (j+1)=(adQ s p q j+adP s p (j+1)) % 65521):=adQ_succ _ _ _ _
   have c0:=hA1.c0
   have c1:=hA1.c1
   have hb:=hA1.lt
   have f0:=hA1.f
   have HA1:Hid (Ad _ b (adP s p j) (adQ s p q j)):=hA1
   have H0:Hid (Ad w b p q):=hA
   clear hA1 hA
   go_wp2
   go_region
   have e1:(adP s p j+((s[j]'hlt).toNat:Int)) % 65521=adP s p (j+1):=by rw [HP.out,HB.out]
   have hA2:=(HA1.out.set0 (adP s p (j+1))).drew1
   have hB2:Below b w ((wr.setCell ⟨b,0,none⟩ (.int .i64 (adP s p (j+1)))).drew):=(Below.setCell (p:=⟨b,0,none⟩) hb1 (Nat.le_refl b) _).drew
   simp only [e1]
   generalize (wr.setCell ⟨b,0,none⟩ (.int .i64 (adP s p (j+1)))).drew=w2 at hA2 hB2 ⊢
   clear c0 c1 hb f0 HA1 hb1 e1 HB hb2 HP
   have c0:=hA2.c0
   have c1:=hA2.c1
   have hb:=hA2.lt
   have f0:=hA2.f
   have HA2:Hid (Ad w2 b (adP s p (j+1)) (adQ s p q j)):=hA2
   clear hA2
   go_wp2
   go_region
   have hA3:=(HA2.out.set1 (adQ s p q (j+1))).drew1
   have hB3:Below b w ((w2.setCell ⟨b,1,none⟩ (.int .i64 (adQ s p q (j+1)))).drew):=(Below.setCell (p:=⟨b,1,none⟩) hB2 (Nat.le_refl b) _).drew
   simp only [← HQ.out]
   generalize (w2.setCell ⟨b,1,none⟩ (.int .i64 (adQ s p q (j+1)))).drew=w3 at hA3 hB3 ⊢
   clear c0 c1 hb f0 HA2 hB2 HQ
   go_wp2
   go_roundw
   case rel=>exact⟨j+1,by omega,by go_num,hA3,hB3⟩
   case measure=>simp [intOf]; omega
  ·go_wp2
   go_end0
   obtain rfl:j=s.size:=by omega
   exact⟨rfl,hA1,hb1⟩
theorem block_last (w:World) (o:Obj):(w.alloc o).heap[w.heap.size]?=some o:=by
 show (w.heap.push _)[w.heap.size]?=_
 simp
set_option maxHeartbeats 400000 in
theorem implAdler_any (x:Int) (s:ByteArray) (w:World) (h0:0≤x) (h1:x≤4294967295) (hs:s.size≤1048576):
  Calls Tryz.prog 61 #[.int .u32 x,.string s] w fun e w'=>e=.returned (.int .u32 (adler x s))∧Below w.heap.size w w':=by
 have hp:=adP_bd s (x % 65536 % 65521) (by omega) (by omega) s.size
 have hq:=adQ_bd s (x % 65536 % 65521) (x / 65536 % 65521) (by omega) (by omega) s.size
 go_enter Tryz.func61,Tryz.ntmps61
 go_wp2_with fail
 refine (newAdler_any x _ h0 h1).mono ?_
 rintro e w1 ⟨rfl,hb1⟩
 go_wp2_with fail
 refine (adlerTake (x % 65536 % 65521) (x / 65536 % 65521) s _ _ (block_last _ _) (by omega) (by omega) (by omega) (by omega) hs).mono ?_
 rintro e w2 ⟨rfl,hA,hb2⟩
 go_wp2_with fail
 refine (adlerWord _ _ _ _ hA hp.1 hp.2 hq.1 hq.2).mono ?_
 rintro e w3 ⟨rfl,hb3⟩
 go_wp2_with fail
 go_ret
 exact⟨rfl,bnext (Below.trans (bal hb1 _) (hb2.mono hb1.size)) hb3⟩
end Go.Proofs.YtklpiihnbokkkaaGreatDoor

namespace Go.Proofs.YtklpiihnbokkkaaGreatDoor
namespace BigMath
def rb (s:ByteArray) (a:Nat):Nat→Int
 | 0=>0
 | k+1=>256 * rb s a k+((s.data[a+k]?.getD 0).toNat:Int)
theorem rb_bd (s:ByteArray) (a:Nat):∀ k,0≤rb s a k∧rb s a k < 256 ^ k
 | 0=>by simp [rb]
 | k+1=>by
  have h:=rb_bd s a k
  have hb:((s.data[a+k]?.getD 0).toNat) < 256:=UInt8.toNat_lt _
  have e:(256:Int) ^ (k+1)=256 ^ k * 256:=Int.pow_succ 256 k
  unfold rb
  rw[e]
  omega
theorem pow4 (j:Nat) (h:j≤4):(256:Int) ^ j≤4294967296:=by
 have:j=0∨j=1∨j=2∨j=3∨j=4:=by omega
 rcases this with rfl | rfl | rfl | rfl | rfl <;> decide
theorem pow3 (j:Nat) (h:j≤3):(256:Int) ^ j≤16777216:=by
 have:j=0∨j=1∨j=2∨j=3:=by omega
 rcases this with rfl | rfl | rfl | rfl <;> decide
theorem rb_lt (s:ByteArray) (a j:Nat) (h:j≤4):0≤rb s a j∧rb s a j < 4294967296:=by
 have h1:=rb_bd s a j
 have h2:=pow4 j h
 omega
theorem rb_lt3 (s:ByteArray) (a j:Nat) (h:j≤3):0≤rb s a j∧rb s a j < 16777216:=by
 have h1:=rb_bd s a j
 have h2:=pow3 j h
 omega
theorem byte_at (s:ByteArray) (i:Nat) (h:i < s.size):s.data[i]?.getD 0=s[i]:=by
 have h':i < s.data.size:=h
 rw[Array.getElem?_eq_getElem h']
 rfl
theorem rb_succ (s:ByteArray) (a j:Nat) (h:a+j < s.size):rb s a (j+1)=256 * rb s a j+(s[a+j].toNat:Int):=by
 show 256 * rb s a j+((s.data[a+j]?.getD 0).toNat:Int)=_
 rw[byte_at s _ h]
theorem i64_or_nat (a b:Nat) (ha:a < 9223372036854775808) (hb:b < 9223372036854775808):bits .or .i64 (a:Int) (b:Int)=((a ||| b:Nat):Int):=by
 have h1:(BitVec.ofInt 64 (a:Int)).toNat=a:=by
  rw[BitVec.ofInt_natCast,BitVec.toNat_ofNat]; exact Nat.mod_eq_of_lt (by omega)
 have h2:(BitVec.ofInt 64 (b:Int)).toNat=b:=by
  rw[BitVec.ofInt_natCast,BitVec.toNat_ofNat]; exact Nat.mod_eq_of_lt (by omega)
 have hx:a ||| b < 2 ^ 63:=Nat.or_lt_two_pow (by omega) (by omega)
 show IntKind.i64.wrap ((BitVec.ofInt 64 (a:Int) ||| BitVec.ofInt 64 (b:Int)).toNat:Int)=_
 rw[BitVec.toNat_or,h1,h2,IntKind.wrap_i64]
 omega
theorem or_byte (x:Int) (b:Nat) (h0:0≤x) (h1:x < 16777216) (hb:b < 256):bits .or .i64 (x * 256) (b:Int)=256 * x+b:=by
 obtain⟨n,rfl⟩:=Int.eq_ofNat_of_zero_le h0
 have e:((n:Int) * 256)=((n * 256:Nat):Int):=by omega
 rw[e,i64_or_nat _ _ (by omega) (by omega),nat_join 8 (n * 256) b (by omega) (by omega)]
 omega
end BigMath
end Go.Proofs.YtklpiihnbokkkaaGreatDoor

namespace Go.Proofs.YtklpiihnbokkkaaGreatDoor
open Go.RowKit
theorem size_yes (x:Int) (w:World) (h1:1≤x) (h2:x≤4):
  Calls Tryz.prog 60 #[.int .i64 x] w fun e w'=>e=.returned (.bool true)∧w'=w:=by
 go_enter Tryz.func60,Tryz.ntmps60
 go_wp2
 go_ret
 exact⟨rfl,rfl⟩
theorem size_no (x:Int) (w:World) (h:¬ (1≤x∧x≤4)):
  Calls Tryz.prog 60 #[.int .i64 x] w fun e w'=>e=.returned (.bool false)∧w'=w:=by
 by_cases h1:1≤x
 ·have h2:¬ x≤4:=fun k=>h ⟨h1,k⟩
  clear h
  go_enter Tryz.func60,Tryz.ntmps60
  go_wp2
  go_ret
  exact⟨rfl,rfl⟩
 ·clear h
  go_enter Tryz.func60,Tryz.ntmps60
  go_wp2
  go_ret
  exact⟨rfl,rfl⟩
end Go.Proofs.YtklpiihnbokkkaaGreatDoor
