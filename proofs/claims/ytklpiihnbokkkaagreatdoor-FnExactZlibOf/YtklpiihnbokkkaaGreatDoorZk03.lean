/-
  Texts of the proof, put together.
-/
import Derived.Test.YtklpiihnbokkkaaGreatDoorZk02
namespace Go.Proofs.YtklpiihnbokkkaaGreatDoor
section
open Go.RowKit Go.Joins
def fints (f:Nat→Int) (n:Nat):List Value:=(List.range n).map fun i=>.int .i64 (f i)
def upd (f:Nat→Int) (j:Nat) (x:Int):Nat→Int:=fun i=>if i=j then x else f i
theorem fints_length (f:Nat→Int) (n:Nat):(fints f n).length=n:=by simp [fints]
theorem fints_get (f:Nat→Int) (n j:Nat) (h:j < (fints f n).length):(fints f n)[j]=.int .i64 (f j):=by simp [fints]
theorem fints_congr {f g:Nat→Int} {n:Nat} (h:∀ i,i < n→f i=g i):fints f n=fints g n:=by
 unfold fints
 refine List.map_congr_left fun i hi=>?_
 rw[h i (List.mem_range.mp hi)]
theorem fints_set (f:Nat→Int) (n j:Nat) (x:Int):(fints f n).set j (.int .i64 x)=fints (upd f j x) n:=by
 refine List.ext_getElem (by simp [fints]) fun i h1 h2=>?_
 rw[List.getElem_set,fints_get (upd f j x)]
 by_cases hij:j=i
 ·subst hij
  rw[if_pos rfl]
  simp[upd]
 ·have hji:¬ i=j:=fun h=>hij h.symm
  rw[if_neg hij,fints_get]
  simp[upd,hji]
def IOwn (w:World) (base g n cap:Nat) (f:Nat→Int):Prop:=Own 3 w base g (.slice (some ⟨g,0,none⟩) n cap) (fints f n)
section
variable {w w':World} {base g n cap:Nat} {f:Nat→Int}
theorem IOwn.lt (h:IOwn w base g n cap f):g < w.heap.size:=Own.lt h
theorem IOwn.base_le (h:IOwn w base g n cap f):base≤g:=Own.base_le h
theorem IOwn.cell (h:IOwn w base g n cap f) (j:Nat) (hj:j < n):w.cell? ⟨g,j,none⟩=some (.int .i64 (f j)):=by
 have h':j < (fints f n).length:=by rw [fints_length]; exact hj
 rw[Own.cell h j h',fints_get]
theorem IOwn.free (h:IOwn w base g n cap f) (j:Nat) (hj:j < n):w.frozen? ⟨g,j,none⟩=false:=Own.free h j (by rw [fints_length]; exact hj)
theorem IOwn.set (h:IOwn w base g n cap f) (j:Nat) (hj:j < n) (x:Int):IOwn (w.setCell ⟨g,j,none⟩ (.int .i64 x)) base g n cap (upd f j x):=by
 have k:=Own.set h j (by rw [fints_length]; exact hj) (.int .i64 x)
 rw[fints_set] at k
 exact k
theorem IOwn.congr {f':Nat→Int} (h:IOwn w base g n cap f) (e:∀ i,i < n→f i=f' i):IOwn w base g n cap f':=by
 unfold IOwn at h ⊢
 rw[← fints_congr e]
 exact h
theorem IOwn.keep (h:IOwn w base g n cap f) (hk:w'.heap[g]?=w.heap[g]?):IOwn w' base g n cap f:=Own.keep h hk
theorem IOwn.alloc (h:IOwn w base g n cap f) (o:Obj):IOwn (w.alloc o) base g n cap f:=Own.alloc h o
theorem IOwn.drew (h:IOwn w base g n cap f):IOwn w.drew base g n cap f:=Own.drewN h 1
theorem IOwn.below {B:Nat} (h:IOwn w base g n cap f) (hb:Below B w w') (hg:g < B):IOwn w' base g n cap f:=Own.below h hb hg
theorem IOwn.called (h:IOwn w base g n cap f) (hb:Below w.heap.size w w'):IOwn w' base g n cap f:=Own.below h hb h.lt
theorem IOwn.mono {b:Nat} (h:IOwn w base g n cap f) (hb:b≤base):IOwn w b g n cap f:=Own.mono h hb
theorem IOwn.grown {row:Option Nat} (h:IOwn w base g n cap f) (hg:w.grownBy w' row) (hne:row≠some g):IOwn w' base g n cap f:=h.keep (hg.block g h.lt (Ne.symm hne))
theorem made_ints (n:Nat):(madeCells #[Value.int .i64 0] n).toList=fints (fun _=>0) n:=by
 unfold madeCells fints
 rw[Array.toList_map,Array.toList_range]
 refine List.map_congr_left fun i _=>?_
 simp[Nat.mod_one]
theorem IOwn.made (w:World) (n:Nat) (hn:n≤maxLen) (hb:base≤w.heap.size):IOwn (w.alloc (.cells (madeCells #[Value.int .i64 0] n) 3)) base w.heap.size n n (fun _=>0):=by
 refine⟨n,madeCells #[Value.int .i64 0] n,(0,0),by rw [fints_length],hb,heap_alloc_new w _,.inl rfl,by rw [fints_length]; exact Nat.le_refl _,hn,by simp [madeCells],?_⟩
 rw[made_ints,fints_length,List.take_of_length_le (by rw [fints_length]; exact Nat.le_refl _)]
end
def Came (w:World) (a:Option Addr) (n:Nat) (f:Nat→Int):Prop:=
 n=0∨∃ g off,a=some ⟨g,off,none⟩∧g < w.heap.size∧∀ j,j < n→w.cell? ⟨g,off+j,none⟩=some (.int .i64 (f j))
theorem Came.called {w w':World} {a:Option Addr} {n:Nat} {f:Nat→Int} (h:Came w a n f) (hb:Below w.heap.size w w'):Came w' a n f:=by
 rcases h with h | ⟨g,off,ha,hg,hc⟩
 ·exact .inl h
 ·exact .inr ⟨g,off,ha,Nat.lt_of_lt_of_le hg hb.size,fun j hj=>(hb.cell (p:=⟨g,off+j,none⟩) hg).trans (hc j hj)⟩
def SL (w:World) (base:Nat) (a:Option Addr) (n cap:Nat) (f:Nat→Int):Prop:=n=0∨∃ g,a=some ⟨g,0,none⟩∧IOwn w base g n cap f
theorem SL.came {w:World} {base:Nat} {a:Option Addr} {n cap:Nat} {f:Nat→Int} (h:SL w base a n cap f):Came w a n f:=by
 rcases h with h | ⟨g,rfl,h⟩
 ·exact .inl h
 ·exact .inr ⟨g,0,rfl,h.lt,fun j hj=>by rw [Nat.zero_add]; exact h.cell j hj⟩
theorem SL.called {w w':World} {base:Nat} {a:Option Addr} {n cap:Nat} {f:Nat→Int} (h:SL w base a n cap f) (hb:Below w.heap.size w w'):SL w' base a n cap f:=by
 rcases h with h | ⟨g,rfl,h⟩
 ·exact .inl h
 ·exact .inr ⟨g,rfl,h.called hb⟩
theorem IOwn.sl {w:World} {base g n cap:Nat} {f:Nat→Int} (h:IOwn w base g n cap f):SL w base (some ⟨g,0,none⟩) n cap f:=.inr ⟨g,rfl,h⟩
theorem Came.grown {w w':World} {a:Option Addr} {n B:Nat} {f:Nat→Int} {row:Option Nat} (h:Came w a n f) (hB:∀ g off,a=some ⟨g,off,none⟩→g < B) (hr:∀ k,row=some k→B≤k) (hg:w.grownBy w' row):Came w' a n f:=by
 rcases h with h | ⟨g,off,ha,hlt,hc⟩
 ·exact .inl h
 ·refine .inr ⟨g,off,ha,Nat.lt_of_lt_of_le hlt hg.size,fun j hj=>?_⟩
  have hne:some g≠row:=fun e=>by have h1:=hB g off ha; have h2:=hr g e.symm; omega
  have hb:=hg.block g hlt hne
  rw[← hc j hj]
  unfold World.cell?
  rw[hb]
end
section
namespace TokLenMath
open TokMath StepMath
def sym1 (t:Tok):Nat:=if t.2.1=0 then t.1.toNat else (LengthCodeOf t.2.1).1.toNat
def sym2 (t:Tok):Nat:=(DistCodeOf t.2.2).1.toNat
def cntA (L:List Tok) (i:Nat):Int:=(if i=256 then 1 else 0)+((L.filter fun t=>decide (sym1 t=i)).length:Int)
def cntB (L:List Tok) (i:Nat):Int:=((L.filter fun t=>decide (t.2.1≠0∧sym2 t=i)).length:Int)
theorem cntA_snoc (L:List Tok) (t:Tok) (i:Nat):upd (cntA L) (sym1 t) (cntA L (sym1 t)+1) i=cntA (L ++ [t]) i:=by
 unfold upd cntA
 rw[List.filter_append,List.length_append]
 by_cases h:i=sym1 t
 ·subst h
  rw[if_pos rfl]
  simp
  omega
 ·rw[if_neg h]
  have:¬ sym1 t=i:=fun e=>h e.symm
  simp[this]
theorem cntB_snoc (L:List Tok) (t:Tok) (ht:t.2.1≠0) (i:Nat):upd (cntB L) (sym2 t) (cntB L (sym2 t)+1) i=cntB (L ++ [t]) i:=by
 unfold upd cntB
 rw[List.filter_append,List.length_append]
 by_cases h:i=sym2 t
 ·subst h
  rw[if_pos rfl]
  simp[ht]
 ·rw[if_neg h]
  have:¬ sym2 t=i:=fun e=>h e.symm
  simp[this]
theorem cntB_byte (L:List Tok) (t:Tok) (ht:t.2.1=0) (i:Nat):cntB L i=cntB (L ++ [t]) i:=by
 unfold cntB
 rw[List.filter_append,List.length_append]
 simp[ht]
theorem sym1_byte {x z:Int}:sym1 (x,0,z)=x.toNat:=if_pos rfl
theorem sym1_rep {x y z:Int} (h:y≠0):sym1 (x,y,z)=(LengthCodeOf y).1.toNat:=if_neg h
theorem len_range {y:Int} (h:3≤y∧y≤258):257≤(LengthCodeOf y).1∧(LengthCodeOf y).1≤285:=by
 unfold LengthCodeOf
 rw[if_pos h]
 unfold lenCode
 split
 ·have:=(len_fact (n:=y.toNat) (by omega) (by omega)).1
  simp only []
  omega
 ·simp only []
  omega
theorem dist_range {z:Int} (h:1≤z∧z≤32768):0≤(DistCodeOf z).1∧(DistCodeOf z).1≤29:=by
 unfold DistCodeOf
 rw[if_pos h]
 unfold distCode
 have:=(dist_fact (n:=z.toNat) (by omega) (by omega)).1
 simp only []
 omega
theorem sym1_lt {t:Tok} (h:TokRight t):sym1 t < 286∧sym1 t≠256:=by
 obtain⟨x,y,z⟩:=t
 unfold TokRight at h
 by_cases e:y=0
 ·subst e
  rw[if_pos rfl] at h
  rw[sym1_byte]
  simp only [] at h
  omega
 ·rw[if_neg e] at h
  rw[sym1_rep e]
  have:=len_range (y:=y) h.2.1
  omega
theorem cnt_le (L:List Tok) (p:Tok→Bool):(L.filter p).length≤L.length:=List.length_filter_le p L
theorem cntA_le {L:List Tok} (h:∀ t∈L,TokRight t) (hL:L.length≤12000) (i:Nat):0≤cntA L i∧cntA L i≤12000:=by
 unfold cntA
 by_cases e:i=256
 ·have h0:(L.filter fun t=>decide (sym1 t=i))=[]:=List.filter_eq_nil_iff.mpr fun t ht=>by
   have:=(sym1_lt (h t ht)).2
   simp only [decide_eq_true_eq]
   omega
  rw[h0,if_pos e]
  simp
 ·rw[if_neg e]
  have:=cnt_le L (fun t=>decide (sym1 t=i))
  omega
theorem cntB_le {L:List Tok} (hL:L.length≤12000) (i:Nat):0≤cntB L i∧cntB L i≤12000:=by
 unfold cntB
 have:=cnt_le L (fun t=>decide (t.2.1≠0∧sym2 t=i))
 omega
end TokLenMath
end
section
namespace TellMath
open TokMath StepMath
abbrev Cod:=Int×Int×Int
def symsT (t:Tok):List (Bool×Cod):=if t.2.1=0 then [(false,(t.1,0,0))] else [(false,LengthCodeOf t.2.1),(true,DistCodeOf t.2.2)]
def symsL (L:List Tok):List (Bool×Cod):=L.flatMap symsT
theorem symsT_byte (x z:Int):symsT (x,0,z)=[(false,(x,0,0))]:=if_pos rfl
theorem symsT_rep (x:Int) {y:Int} (z:Int) (h:y≠0):symsT (x,y,z)=[(false,LengthCodeOf y),(true,DistCodeOf z)]:=if_neg h
theorem symsL_snoc {L:List Tok} {j:Nat} (h:j < L.length):symsL (L.take (j+1))=symsL (L.take j) ++ symsT (L.getD j (0,0,0)):=by
 unfold symsL
 rw[List.take_add_one,List.getElem?_eq_getElem h,List.flatMap_append,List.getD_eq_getElem?_getD,List.getElem?_eq_getElem h]
 simp
theorem symsT_length (t:Tok):(symsT t).length≤2:=by
 unfold symsT
 split <;> simp
theorem symsL_length:∀ L:List Tok,(symsL L).length≤2 * L.length
 | []=>Nat.le_refl _
 | t :: L=>by
  have h1:=symsL_length L
  have h2:=symsT_length t
  show (symsT t ++ symsL L).length≤_
  rw[List.length_append,List.length_cons]
  omega
end TellMath
end
section
namespace PartMath
open OutMath PutMath BlockMath
abbrev Part:=Int×Nat×Bool
def bitsP (p:Part):List Int:=pieceBits p.1 p.2.1 p.2.2
def partBits:List Part→List Int
 | []=>[]
 | p :: l=>bitsP p ++ partBits l
theorem partBits_app:∀ a b:List Part,partBits (a ++ b)=partBits a ++ partBits b
 | [],_=>rfl
 | p :: l,b=>by
  show bitsP p ++ partBits (l ++ b)=(bitsP p ++ partBits l) ++ partBits b
  rw[partBits_app l b,List.append_assoc]
theorem bits01_nil:Bits01 []:=fun i=>by simp
theorem partBits_01:∀ l:List Part,Bits01 (partBits l)
 | []=>bits01_nil
 | _ :: l=>(pieceBits_01 _ _ _).append (partBits_01 l)
theorem bitsP_length (p:Part):(bitsP p).length=p.2.1:=pieceBits_length _ _ _
def Right (p:Part):Prop:=0≤p.1∧p.1≤16777216∧p.2.1≤24
theorem partBits_take {l:List Part} {j:Nat} (h:j < l.length):partBits (l.take (j+1))=partBits (l.take j) ++ bitsP (l.getD j (0,0,false)):=by
 rw[List.take_add_one,List.getElem?_eq_getElem h,partBits_app,List.getD_eq_getElem?_getD,List.getElem?_eq_getElem h]
 show _ ++ (bitsP _ ++ [])=_
 rw[List.append_nil]
 rfl
theorem partBits_take_le:∀ (l:List Part) (j:Nat),(partBits (l.take j)).length≤(partBits l).length
 | [],_=>by simp
 | _ :: _,0=>Nat.zero_le _
 | p :: l,j+1=>by
  show (bitsP p ++ partBits (l.take j)).length≤(bitsP p ++ partBits l).length
  have:=partBits_take_le l j
  rw[List.length_append,List.length_append]
  omega
theorem putB_nil (xs:List Int) (c:Nat):putB xs c []=xs:=rfl
theorem bitsP_none (x:Int) (h:Bool):bitsP (x,0,h)=[]:=rfl
end PartMath
end
section
namespace BodyMath
open OutMath TokMath StepMath CodeMath HitMath TokLenMath TellMath BlockMath PartMath
section
variable (f1:Nat→Int) (n1:Nat) (f2:Nat→Int) (n2:Nat)
def codeP (f:Nat→Int) (n i:Nat):Part:=(codeOf f n i,(f i).toNat,true)
def symP (x:Bool×Cod):List Part:=[if x.1=true then codeP f2 n2 x.2.1.toNat else codeP f1 n1 x.2.1.toNat,(x.2.2.2,x.2.2.1.toNat,false)]
def symsP (S:List (Bool×Cod)):List Part:=S.flatMap (symP f1 n1 f2 n2)
def tokP (t:Tok):List Part:=
 if t.2.1=0 then [codeP f1 n1 t.1.toNat] else [codeP f1 n1 (LengthCodeOf t.2.1).1.toNat,((LengthCodeOf t.2.1).2.2,(LengthCodeOf t.2.1).2.1.toNat,false),codeP f2 n2 (DistCodeOf t.2.2).1.toNat,((DistCodeOf t.2.2).2.2,(DistCodeOf t.2.2).2.1.toNat,false)]
def toksP (L:List Tok):List Part:=L.flatMap (tokP f1 n1 f2 n2)
def bodyP (L:List Tok):List Part:=toksP f1 n1 f2 n2 L ++ [codeP f1 n1 256]
def bodyBits (L:List Tok):List Int:=partBits (bodyP f1 n1 f2 n2 L)
end
section
variable {f1:Nat→Int} {n1:Nat} {f2:Nat→Int} {n2:Nat}
theorem partBits_cons (p:Part) (l:List Part):partBits (p :: l)=bitsP p ++ partBits l:=rfl
theorem partBits_one (p:Part):partBits [p]=bitsP p:=List.append_nil _
theorem symP_bits (t:Tok):partBits (symsP f1 n1 f2 n2 (symsT t))=partBits (tokP f1 n1 f2 n2 t):=by
 obtain⟨x,y,z⟩:=t
 by_cases hy:y=0
 ·subst hy
  rw[symsT_byte]
  unfold tokP
  rw[if_pos rfl,partBits_one]
  show bitsP (codeP f1 n1 x.toNat) ++ (bitsP (0,0,false) ++ [])=_
  rw[bitsP_none,List.append_nil,List.append_nil]
 ·rw[symsT_rep _ _ hy]
  unfold tokP
  rw[if_neg hy]
  rfl
theorem symsP_app (a b:List (Bool×Cod)):symsP f1 n1 f2 n2 (a ++ b)=symsP f1 n1 f2 n2 a ++ symsP f1 n1 f2 n2 b:=List.flatMap_append
theorem toksP_bits:∀ L:List Tok,partBits (symsP f1 n1 f2 n2 (symsL L))=partBits (toksP f1 n1 f2 n2 L)
 | []=>rfl
 | t :: L=>by
  have e1:symsL (t :: L)=symsT t ++ symsL L:=rfl
  have e2:toksP f1 n1 f2 n2 (t :: L)=tokP f1 n1 f2 n2 t ++ toksP f1 n1 f2 n2 L:=rfl
  rw[e1,e2,symsP_app,partBits_app,partBits_app,symP_bits,toksP_bits L]
theorem progP_bits (L:List Tok):partBits (symsP f1 n1 f2 n2 (symsL L ++ [(false,(256,0,0))]))=bodyBits f1 n1 f2 n2 L:=by
 unfold bodyBits bodyP
 rw[symsP_app,partBits_app,toksP_bits,partBits_app,partBits_one]
 show _ ++ (bitsP (codeP f1 n1 256) ++ (bitsP (0,0,false) ++ []))=_
 rw[bitsP_none,List.append_nil,List.append_nil]
theorem toksP_snoc {L:List Tok} {j:Nat} (h:j < L.length):toksP f1 n1 f2 n2 (L.take (j+1))=toksP f1 n1 f2 n2 (L.take j) ++ tokP f1 n1 f2 n2 (L.getD j (0,0,0)):=by
 unfold toksP
 rw[List.take_add_one,List.getElem?_eq_getElem h,List.flatMap_append,List.getD_eq_getElem?_getD,List.getElem?_eq_getElem h]
 simp
theorem tokP_length (t:Tok):(tokP f1 n1 f2 n2 t).length≤4:=by
 unfold tokP
 split <;> simp
theorem toksP_length:∀ L:List Tok,(toksP f1 n1 f2 n2 L).length≤4 * L.length
 | []=>Nat.le_refl _
 | t :: L=>by
  have h1:=toksP_length L
  have h2:=tokP_length (f1:=f1) (n1:=n1) (f2:=f2) (n2:=n2) t
  show (tokP f1 n1 f2 n2 t ++ toksP f1 n1 f2 n2 L).length≤_
  rw[List.length_append,List.length_cons]
  omega
theorem symsP_length:∀ S:List (Bool×Cod),(symsP f1 n1 f2 n2 S).length=2 * S.length
 | []=>rfl
 | x :: S=>by
  show (symP f1 n1 f2 n2 x ++ symsP f1 n1 f2 n2 S).length=_
  rw[List.length_append,symsP_length S,List.length_cons]
  show 2+_=_
  omega
end
structure BodyOk (f1:Nat→Int) (n1:Nat) (f2:Nat→Int) (n2:Nat) (L:List Tok):Prop where
 c1:Coded f1 n1
 e1:256 < n1
 m2:n2≤288
 w2:∀ i,i < n2→0≤f2 i∧f2 i≤15
 right:∀ t∈L,TokRight t
 s1:∀ t∈L,sym1 t < n1
 s2:∀ t∈L,t.2.1≠0→Coded f2 n2∧sym2 t < n2
theorem codeP_right {f:Nat→Int} {n i:Nat} (h:Coded f n) (hi:i < n):Right (codeP f n i):=by
 have h1:=code_lt h hi
 have h2:=h.2.1 i hi
 have h3:=p2_le (show (f i).toNat≤24 by omega)
 have h4:p2 24=16777216:=by decide +kernel
 refine⟨h1.1,?_,?_⟩
 ·show codeOf f n i≤16777216
  omega
 ·show (f i).toNat≤24
  omega
theorem lenCode_small {y:Int} (h:3≤y∧y≤258):(0≤(LengthCodeOf y).2.1∧(LengthCodeOf y).2.1≤6)∧0≤(LengthCodeOf y).2.2∧(LengthCodeOf y).2.2≤258:=by
 unfold LengthCodeOf
 rw[if_pos h]
 unfold lenCode
 split
 ·have hf:=(len_fact (n:=y.toNat) (by omega) (by omega)).1
  have hb:bitsN 4 (findN 3 4 y.toNat 28)≤6:=by unfold bitsN; omega
  simp only []
  omega
 ·simp only []
  omega
theorem distCode_small {z:Int} (h:1≤z∧z≤32768):(0≤(DistCodeOf z).2.1∧(DistCodeOf z).2.1≤14)∧0≤(DistCodeOf z).2.2∧(DistCodeOf z).2.2≤32768:=by
 unfold DistCodeOf
 rw[if_pos h]
 unfold distCode
 have hf:=(dist_fact (n:=z.toNat) (by omega) (by omega)).1
 have hb:bitsN 2 (findN 1 2 z.toNat 30)≤14:=by unfold bitsN; omega
 simp only []
 omega
section
variable {f1:Nat→Int} {n1:Nat} {f2:Nat→Int} {n2:Nat} {L:List Tok}
theorem BodyOk.sym (h:BodyOk f1 n1 f2 n2 L) {t:Tok} (ht:t∈L):∀ x∈symsT t,(0≤x.2.1∧(if x.1=true then Coded f2 n2∧x.2.1.toNat < n2 else x.2.1.toNat < n1))∧(0≤x.2.2.1∧x.2.2.1≤14)∧0≤x.2.2.2∧x.2.2.2≤32768:=by
 intro q hq
 have hT:=h.right t ht
 have hs1:=h.s1 t ht
 have hs2:=h.s2 t ht
 obtain⟨x,y,z⟩:=t
 unfold TokRight at hT
 by_cases hy:y=0
 ·subst hy
  rw[if_pos rfl] at hT
  rw[symsT_byte,List.mem_singleton] at hq
  subst hq
  rw[sym1_byte] at hs1
  refine⟨⟨hT.1.1,?_⟩,by simp only []; omega,by simp only []; omega⟩
  rw[if_neg (by simp)]
  exact hs1
 ·rw[if_neg hy] at hT
  obtain⟨_,hy2,hz2⟩:=hT
  have ha:=len_range (y:=y) hy2
  have hb:=dist_range (z:=z) hz2
  have hc:=lenCode_small (y:=y) hy2
  have hd:=distCode_small (z:=z) hz2
  rw[sym1_rep hy] at hs1
  rw[symsT_rep _ _ hy] at hq
  rcases List.mem_cons.mp hq with rfl | hq
  ·refine⟨⟨by simp only []; omega,?_⟩,by simp only []; omega,by simp only []; omega⟩
   rw[if_neg (by simp)]
   exact hs1
  ·rw[List.mem_singleton] at hq
   subst hq
   refine⟨⟨by simp only []; omega,?_⟩,by simp only []; omega,by simp only []; omega⟩
   rw[if_pos rfl]
   exact hs2 hy
theorem BodyOk.symR (h:BodyOk f1 n1 f2 n2 L) {t:Tok} (ht:t∈L):∀ x∈symsT t,∀ p∈symP f1 n1 f2 n2 x,Right p:=by
 intro x hx p hp
 obtain⟨⟨k0,k1⟩,k2,k3⟩:=h.sym ht x hx
 unfold symP at hp
 rcases List.mem_cons.mp hp with rfl | hp
 ·by_cases hb:x.1=true
  ·rw[if_pos hb] at k1 ⊢
   exact codeP_right k1.1 k1.2
  ·rw[if_neg hb] at k1 ⊢
   exact codeP_right h.c1 k1
 ·rw[List.mem_singleton] at hp
  subst hp
  refine⟨k3.1,?_,?_⟩ <;> simp only [] <;> omega
theorem BodyOk.progR (h:BodyOk f1 n1 f2 n2 L):∀ p∈symsP f1 n1 f2 n2 (symsL L ++ [(false,(256,0,0))]),Right p:=by
 intro p hp
 obtain⟨x,hx,hp⟩:=List.mem_flatMap.mp hp
 rcases List.mem_append.mp hx with hx | hx
 ·obtain⟨t,ht,hx⟩:=List.mem_flatMap.mp hx
  exact h.symR ht x hx p hp
 ·rw[List.mem_singleton] at hx
  subst hx
  unfold symP at hp
  rcases List.mem_cons.mp hp with rfl | hp
  ·rw[if_neg (by simp)]
   exact codeP_right h.c1 h.e1
  ·rw[List.mem_singleton] at hp
   subst hp
   exact⟨by simp,by simp,by simp⟩
theorem BodyOk.tokR (h:BodyOk f1 n1 f2 n2 L) {t:Tok} (ht:t∈L):∀ p∈tokP f1 n1 f2 n2 t,Right p:=by
 intro p hp
 obtain⟨x,y,z⟩:=t
 by_cases hy:y=0
 ·subst hy
  have hR:=h.symR ht (false,(x,0,0)) (by rw [symsT_byte]; exact List.mem_singleton.mpr rfl)
  unfold tokP at hp
  rw[if_pos rfl,List.mem_singleton] at hp
  subst hp
  exact hR _ (List.mem_cons_self ..)
 ·have h1:=h.symR ht (false,LengthCodeOf y) (by rw [symsT_rep _ _ hy]; exact List.mem_cons_self ..)
  have h2:=h.symR ht (true,DistCodeOf z) (by rw [symsT_rep _ _ hy]; exact List.mem_cons_of_mem _ (List.mem_cons_self ..))
  unfold tokP at hp
  rw[if_neg hy] at hp
  rcases List.mem_cons.mp hp with rfl | hp
  ·exact h1 _ (List.mem_cons_self ..)
  ·rcases List.mem_cons.mp hp with rfl | hp
   ·exact h1 _ (List.mem_cons_of_mem _ (List.mem_cons_self ..))
   ·rcases List.mem_cons.mp hp with rfl | hp
    ·exact h2 _ (List.mem_cons_self ..)
    ·rw[List.mem_singleton] at hp
     subst hp
     exact h2 _ (List.mem_cons_of_mem _ (List.mem_cons_self ..))
theorem BodyOk.bodyR (h:BodyOk f1 n1 f2 n2 L):∀ p∈bodyP f1 n1 f2 n2 L,Right p:=by
 intro p hp
 rcases List.mem_append.mp hp with hp | hp
 ·obtain⟨t,ht,hp⟩:=List.mem_flatMap.mp hp
  exact h.tokR ht p hp
 ·rw[List.mem_singleton] at hp
  subst hp
  exact codeP_right h.c1 h.e1
end
end BodyMath
end
section
open CodeMath InfMath TokMath StepMath TrimMath TokLenMath BlockMath BodyMath
theorem fixed_body {L:List Tok} (h:∀ t∈L,TokRight t):BodyOk fixed1 288 fixed2 32 L where
 c1:=fixed1_coded
 e1:=by omega
 m2:=by omega
 w2:=fun i hi=>fixed2_coded.2.1 i hi
 right:=h
 s1:=fun t ht=>by have:=(sym1_lt (h t ht)).1; omega
 s2:=fun t ht hy=>by
  refine⟨fixed2_coded,?_⟩
  have hT:=h t ht
  obtain⟨x,y,z⟩:=t
  unfold TokRight at hT
  rw[if_neg hy] at hT
  have:=dist_range (z:=z) hT.2.2
  unfold sym2
  simp only []
  omega
def fixedOut (s:ByteArray) (c:Int) (L:List Tok) (last:Bool):Option (ByteArray×Nat):=
 if TokensRight L then (outSt s c).bind fun o=>bitsOut o (headBits 1 last ++ bodyBits fixed1 288 fixed2 32 L) else none
end
section
namespace PackageMath
abbrev Coin:=Int×List Nat
def sm (φ:Coin→Int):List Coin→Int
 | []=>0
 | x :: l=>φ x+sm φ l
def Addi (φ:Coin→Int):Prop:=∀ a b:Coin,φ (a.1+b.1,a.2 ++ b.2)=φ a+φ b
def pairs:List Coin→List Coin
 | a :: b :: l=>(a.1+b.1,a.2 ++ b.2) :: pairs l
 | _=>[]
def merge:List Coin→List Coin→List Coin
 | [],ys=>ys
 | x :: xs,[]=>x :: xs
 | x :: xs,y :: ys=>if x.1≤y.1 then x :: merge xs (y :: ys) else y :: merge (x :: xs) ys
termination_by xs ys=>xs.length+ys.length
def lists (X:List Coin):Nat→List Coin
 | 0=>X
 | k+1=>merge X (pairs (lists X k))
def Asc:List Coin→Prop
 | []=>True
 | x :: l=>0≤x.1∧(∀ y∈l,x.1≤y.1)∧Asc l
theorem asc_nonneg:∀ {l:List Coin},Asc l→∀ y∈l,0≤y.1
 | [],_,y,hy=>by cases hy
 | x :: l,h,y,hy=>by
  rcases List.mem_cons.mp hy with rfl | hy
  ·exact h.1
  ·exact asc_nonneg h.2.2 y hy
theorem merge_nil_right (xs:List Coin):merge xs []=xs:=by cases xs <;> simp [merge]
theorem merge_cons (x y:Coin) (xs ys:List Coin):merge (x :: xs) (y :: ys)=if x.1≤y.1 then x :: merge xs (y :: ys) else y :: merge (x :: xs) ys:=by
 rw[merge]
theorem merge_length (xs ys:List Coin):(merge xs ys).length=xs.length+ys.length:=by
 induction xs generalizing ys with
 | nil=>simp [merge]
 | cons x xs ih=>
  induction ys with
  | nil=>simp [merge]
  | cons y ys ihy=>
   rw[merge_cons]
   split
   ·simp only [List.length_cons]
    rw[ih]
    simp only [List.length_cons]
    omega
   ·simp only [List.length_cons]
    rw[ihy]
    simp only [List.length_cons]
    omega
theorem merge_mem (xs ys:List Coin) (z:Coin):z∈merge xs ys→z∈xs∨z∈ys:=by
 induction xs generalizing ys with
 | nil=>intro h; simp [merge] at h; exact .inr h
 | cons x xs ih=>
  induction ys with
  | nil=>intro h; simp [merge] at h; exact .inl (by simpa using h)
  | cons y ys ihy=>
   rw[merge_cons]
   split
   ·intro h
    rcases List.mem_cons.mp h with rfl | h
    ·simp
    ·rcases ih (y :: ys) h with h | h
     ·simp[h]
     ·exact .inr h
   ·intro h
    rcases List.mem_cons.mp h with rfl | h
    ·simp
    ·rcases ihy h with h | h
     ·exact .inl h
     ·simp[h]
theorem merge_asc {xs ys:List Coin} (hx:Asc xs) (hy:Asc ys):Asc (merge xs ys):=by
 induction xs generalizing ys with
 | nil=>simpa [merge] using hy
 | cons x xs ih=>
  induction ys with
  | nil=>simpa [merge] using hx
  | cons y ys ihy=>
   rw[merge_cons]
   split
   ·rename_i h
    refine⟨hx.1,fun z hz=>?_,ih hx.2.2 hy⟩
    rcases merge_mem _ _ _ hz with hz | hz
    ·exact hx.2.1 z hz
    ·rcases List.mem_cons.mp hz with rfl | hz
     ·exact h
     ·have:=hy.2.1 z hz; omega
   ·rename_i h
    refine⟨hy.1,fun z hz=>?_,ihy hy.2.2⟩
    rcases merge_mem _ _ _ hz with hz | hz
    ·rcases List.mem_cons.mp hz with rfl | hz
     ·omega
     ·have:=hx.2.1 z hz; omega
    ·exact hy.2.1 z hz
theorem pairs_length:∀ l:List Coin,(pairs l).length=l.length / 2
 | []=>rfl
 | [_]=>by simp [pairs]
 | a :: b :: l=>by
  show (pairs l).length+1=(l.length+1+1) / 2
  rw[pairs_length l]
  omega
theorem pairs_sm {φ:Coin→Int} (h:Addi φ):∀ (l:List Coin) (b:Nat),2 * b≤l.length→sm φ ((pairs l).take b)=sm φ (l.take (2 * b))
 | l,0,_=>by simp [sm]
 | [],b+1,hb=>by simp at hb
 | [_],b+1,hb=>by simp at hb; omega
 | a :: c :: l,b+1,hb=>by
  rw[show 2 * (b+1)=2 * b+1+1 by omega]
  show φ (a.1+c.1,a.2 ++ c.2)+sm φ ((pairs l).take b)=φ a+(φ c+sm φ (l.take (2 * b)))
  rw[h,pairs_sm h l b (by simp at hb; omega)]
  omega
theorem pairs_get:∀ (l:List Coin) (t:Nat) (ht:t < l.length) (hp:t / 2 < (pairs l).length),(∀ y∈l,0≤y.1)→l[t].1≤(pairs l)[t / 2].1
 | [],t,ht,_,_=>by simp at ht
 | [_],t,ht,hp,_=>by simp [pairs] at hp
 | a :: b :: l,0,_,_,h=>by
  have:=h b (by simp)
  show a.1≤a.1+b.1
  omega
 | a :: b :: l,1,_,_,h=>by
  have:=h a (by simp)
  show b.1≤a.1+b.1
  omega
 | a :: b :: l,t+2,ht,hp,h=>by
  have e:(t+2) / 2=t / 2+1:=by omega
  have hp':t / 2 < (pairs l).length:=by
   have h1:(pairs (a :: b :: l)).length=(pairs l).length+1:=rfl
   omega
  have k:=pairs_get l t (by simp at ht; omega) hp' (fun y hy=>h y (by simp [hy]))
  simp only [e,pairs,List.getElem_cons_succ]
  exact k
theorem pairs_mem_ge:∀ (l:List Coin) (z:Int),(∀ y∈l,z≤y.1)→(∀ y∈l,0≤y.1)→∀ p∈pairs l,2 * z≤p.1∧0≤p.1
 | [],_,_,_,p,hp=>by simp [pairs] at hp
 | [_],_,_,_,p,hp=>by simp [pairs] at hp
 | a :: b :: l,z,h,h0,p,hp=>by
  have ha:=h a (by simp)
  have hb:=h b (by simp)
  have ha0:=h0 a (by simp)
  have hb0:=h0 b (by simp)
  rcases List.mem_cons.mp hp with rfl | hp
  ·show 2 * z≤a.1+b.1∧0≤a.1+b.1
   omega
  ·exact pairs_mem_ge l z (fun y hy=>h y (by simp [hy])) (fun y hy=>h0 y (by simp [hy])) p hp
theorem pairs_asc:∀ {l:List Coin},Asc l→Asc (pairs l)
 | [],_=>trivial
 | [_],_=>trivial
 | a :: b :: l,h=>by
  have hb:=h.2.2
  have hab:=h.2.1 b (by simp)
  refine⟨?_,fun p hp=>?_,pairs_asc hb.2.2⟩
  ·show 0≤a.1+b.1
   have:=h.1
   have:=hb.1
   omega
  ·have k:=pairs_mem_ge l b.1 hb.2.1 (asc_nonneg hb.2.2) p hp
   show a.1+b.1≤p.1
   omega
theorem lists_asc {X:List Coin} (h:Asc X):∀ k,Asc (lists X k)
 | 0=>h
 | k+1=>merge_asc h (pairs_asc (lists_asc h k))
theorem lists_length (X:List Coin) (k:Nat):(lists X (k+1)).length=X.length+(lists X k).length / 2:=by
 show (merge X (pairs (lists X k))).length=_
 rw[merge_length,pairs_length]
theorem merge_split (X Y:List Coin):∀ m,m≤X.length+Y.length→∃ a b,a+b=m∧a≤X.length∧b≤Y.length∧(∀ φ,sm φ ((merge X Y).take m)=sm φ (X.take a)+sm φ (Y.take b))∧
  (∀ i (hi:i < X.length),i < a→∃ t,∃ ht:t < (merge X Y).length,t < m∧(merge X Y)[t]=X[i])∧
  (Asc X→∀ j (hj:j < Y.length) i (hi:i < X.length),j < b→X[i].1≤Y[j].1→i < a):=by
 induction X generalizing Y with
 | nil=>
  intro m hm
  refine⟨0,m,by omega,by simp,by simpa using hm,fun φ=>by simp [merge,sm],fun i hi=>by simp at hi,fun _ j hj i hi=>by simp at hi⟩
 | cons x X ih=>
  induction Y with
  | nil=>
   intro m hm
   refine⟨m,0,by omega,by simpa using hm,by simp,fun φ=>by simp [merge,sm],fun i hi h=>?_,fun _ j hj=>by simp at hj⟩
   exact⟨i,by rw [merge_nil_right]; exact hi,h,by simp [merge_nil_right]⟩
  | cons y Y ihy=>
   intro m hm
   rw[merge_cons]
   cases m with
   | zero=>
    refine⟨0,0,rfl,by simp,by simp,fun φ=>by simp [sm],fun i hi h=>by omega,fun _ j hj i hi h=>by omega⟩
   | succ m=>
    by_cases hxy:x.1≤y.1
    ·obtain⟨a,b,h1,h2,h3,h4,h5,h6⟩:=ih (y :: Y) m (by simp at hm ⊢; omega)
     refine⟨a+1,b,by omega,by simp; omega,h3,fun φ=>?_,fun i hi h=>?_,fun hA j hj i hi hjb hle=>?_⟩
     ·rw[if_pos hxy]
      show φ x+sm φ ((merge X (y :: Y)).take m)=φ x+sm φ (X.take a)+_
      rw[h4]
      omega
     ·cases i with
      | zero=>exact⟨0,by rw [if_pos hxy]; simp,by omega,by simp [if_pos hxy]⟩
      | succ i=>
       obtain⟨t,ht,htm,he⟩:=h5 i (by simp at hi; omega) (by omega)
       exact⟨t+1,by rw [if_pos hxy]; simp; omega,by omega,by simpa [if_pos hxy] using he⟩
     ·cases i with
      | zero=>omega
      | succ i=>
       have:=h6 hA.2.2 j hj i (by simp at hi; omega) hjb (by simpa using hle)
       omega
    ·obtain⟨a,b,h1,h2,h3,h4,h5,h6⟩:=ihy m (by simp at hm ⊢; omega)
     refine⟨a,b+1,by omega,h2,by simp; omega,fun φ=>?_,fun i hi h=>?_,fun hA j hj i hi hjb hle=>?_⟩
     ·rw[if_neg hxy]
      show φ y+sm φ ((merge (x :: X) Y).take m)=_+(φ y+sm φ (Y.take b))
      rw[h4]
      omega
     ·obtain⟨t,ht,htm,he⟩:=h5 i hi h
      exact⟨t+1,by rw [if_neg hxy]; simp; omega,by omega,by simpa [if_neg hxy] using he⟩
     ·cases j with
      | zero=>
       have hle':(x :: X)[i].1≤y.1:=by simpa using hle
       have hx:x.1≤(x :: X)[i].1:=by
        cases i with
        | zero=>simp
        | succ i=>
         have hi':i < X.length:=by simp at hi; omega
         have:=hA.2.1 (X[i]'hi') (List.getElem_mem _)
         simpa using this
       omega
      | succ j=>exact h6 hA j (by simp at hj; omega) i hi (by omega) (by simpa using hle)
def w1:Coin→Int:=fun x=>x.1
theorem addi_w1:Addi w1:=fun _ _=>rfl
def sumTo (g:Nat→Int):Nat→Int
 | 0=>0
 | k+1=>sumTo g k+g k
theorem sumTo_congr {g g':Nat→Int}:∀ {k:Nat},(∀ i,i < k→g i=g' i)→sumTo g k=sumTo g' k
 | 0,_=>rfl
 | k+1,h=>by
  show sumTo g k+g k=sumTo g' k+g' k
  rw[sumTo_congr (fun i hi=>h i (by omega)),h k (by omega)]
theorem sumTo_le {g g':Nat→Int}:∀ {k:Nat},(∀ i,i < k→g i≤g' i)→sumTo g k≤sumTo g' k
 | 0,_=>Int.le_refl _
 | k+1,h=>by
  have h1:=sumTo_le (k:=k) (fun i hi=>h i (by omega))
  have h2:=h k (by omega)
  show sumTo g k+g k≤sumTo g' k+g' k
  omega
theorem sumTo_add (g g':Nat→Int):∀ k,sumTo (fun i=>g i+g' i) k=sumTo g k+sumTo g' k
 | 0=>rfl
 | k+1=>by
  show sumTo (fun i=>g i+g' i) k+(g k+g' k)=sumTo g k+g k+(sumTo g' k+g' k)
  rw[sumTo_add g g' k]
  omega
theorem sumTo_zero:∀ k,sumTo (fun _=>0) k=0
 | 0=>rfl
 | k+1=>by
  show sumTo (fun _=>0) k+0=0
  rw[sumTo_zero k]
  rfl
theorem sumTo_swap (g:Nat→Nat→Int) (n:Nat):∀ k,sumTo (fun j=>sumTo (fun r=>g j r) n) k=sumTo (fun r=>sumTo (fun j=>g j r) k) n
 | 0=>by
  show 0=sumTo (fun _=>0) n
  rw[sumTo_zero]
 | k+1=>by
  show sumTo (fun j=>sumTo (fun r=>g j r) n) k+sumTo (fun r=>g k r) n=sumTo (fun r=>sumTo (fun j=>g j r) k+g k r) n
  rw[sumTo_swap g n k,sumTo_add]
theorem sm_take (φ:Coin→Int):∀ (l:List Coin) (a:Nat),a≤l.length→sm φ (l.take a)=sumTo (fun r=>φ (l.getD r (0,[]))) a
 | l,0,_=>by simp [sm,sumTo]
 | l,a+1,h=>by
  have ih:=sm_take φ l a (by omega)
  show _=sumTo (fun r=>φ (l.getD r (0,[]))) a+φ (l.getD a (0,[]))
  rw[← ih]
  have e:∀ (l:List Coin) (a:Nat),a < l.length→sm φ (l.take (a+1))=sm φ (l.take a)+φ (l.getD a (0,[])):=by
   intro l
   induction l with
   | nil=>intro a ha; simp at ha
   | cons x l ihl=>
    intro a ha
    cases a with
    | zero=>simp [sm]
    | succ a=>
     show φ x+sm φ (l.take (a+1))=φ x+sm φ (l.take a)+φ (l.getD a (0,[]))
     rw[ihl a (by simp at ha; omega)]
     omega
  exact e l a (by omega)
theorem levels {X:List Coin} (hX:Asc X):∀ k m,m≤(lists X k).length→∃ a:Nat→Nat,(∀ φ,Addi φ→sm φ ((lists X k).take m)=sumTo (fun j=>sm φ (X.take (a j))) (k+1))∧
  sumTo (fun j=>(a j:Int) * 2 ^ j) (k+1)=(m:Int) * 2 ^ k∧(∀ j,j≤k→a j≤X.length)∧(∀ j,j < k→a j≤a (j+1))∧
  (∀ i (hi:i < X.length),i < a k→∃ t,∃ ht:t < (lists X k).length,t < m∧X[i].1≤(lists X k)[t].1)
 | 0,m,hm=>by
  refine⟨fun _=>m,fun φ _=>?_,?_,fun _ _=>hm,fun j hj=>by omega,fun i hi h=>⟨i,hi,h,Int.le_refl _⟩⟩
  ·show sm φ (X.take m)=0+sm φ (X.take m)
   omega
  ·show 0+(m:Int) * 2 ^ 0=_
   omega
 | k+1,m,hm=>by
  have hm':m≤X.length+(pairs (lists X k)).length:=by
   rw[← merge_length]; exact hm
  obtain⟨a,b,h1,h2,h3,h4,h5,h6⟩:=merge_split X (pairs (lists X k)) m hm'
  have hb2:2 * b≤(lists X k).length:=by
   rw[pairs_length] at h3
   omega
  obtain⟨a',g1,g2,g3,g4,g5⟩:=levels hX k (2 * b) hb2
  refine⟨fun j=>if j=k+1 then a else a' j,fun φ hφ=>?_,?_,fun j hj=>?_,fun j hj=>?_,fun i hi h=>?_⟩
  ·show sm φ ((merge X (pairs (lists X k))).take m)=sumTo (fun j=>sm φ (X.take (if j=k+1 then a else a' j))) (k+1)+sm φ (X.take (if k+1=k+1 then a else a' (k+1)))
   have e:sumTo (fun j=>sm φ (X.take (if j=k+1 then a else a' j))) (k+1)=sumTo (fun j=>sm φ (X.take (a' j))) (k+1):=sumTo_congr (fun j hj=>by
    show sm φ (X.take (if j=k+1 then a else a' j))=_
    rw[if_neg (by omega)])
   rw[h4,if_pos rfl,pairs_sm hφ _ _ hb2,g1 φ hφ,e]
   omega
  ·show sumTo (fun j=>((if j=k+1 then a else a' j:Nat):Int) * 2 ^ j) (k+1)+((if k+1=k+1 then a else a' (k+1):Nat):Int) * 2 ^ (k+1)=_
   have e:sumTo (fun j=>((if j=k+1 then a else a' j:Nat):Int) * 2 ^ j) (k+1)=sumTo (fun j=>(a' j:Int) * 2 ^ j) (k+1):=sumTo_congr (fun j hj=>by
    show ((if j=k+1 then a else a' j:Nat):Int) * 2 ^ j=_
    rw[if_neg (by omega)])
   rw[if_pos rfl,e,g2,← h1]
   rw[Int.pow_succ]
   generalize (2:Int) ^ k=q
   have e1:((2 * b:Nat):Int) * q=(b:Int) * (q * 2):=by
    rw[show ((2 * b:Nat):Int)=(b:Int) * 2 by omega,Int.mul_assoc,Int.mul_comm 2 q]
   have e2:((a+b:Nat):Int) * (q * 2)=(a:Int) * (q * 2)+(b:Int) * (q * 2):=by
    rw[show ((a+b:Nat):Int)=(a:Int)+(b:Int) by omega,Int.add_mul]
   omega
  ·show (if j=k+1 then a else a' j)≤_
   split
   ·exact h2
   ·exact g3 j (by omega)
  ·show (if j=k+1 then a else a' j)≤(if j+1=k+1 then a else a' (j+1))
   rw[if_neg (by omega)]
   split
   ·obtain rfl:j=k:=by omega
    by_cases hz:a' j=0
    ·omega
    ·have hlast:a' j - 1 < X.length:=by have:=g3 j (by omega); omega
     obtain⟨t,ht,htm,hle⟩:=g5 (a' j - 1) hlast (by omega)
     have htb:t / 2 < (pairs (lists X j)).length:=by omega
     have hpg:=pairs_get (lists X j) t ht htb (asc_nonneg (lists_asc hX j))
     have:=h6 hX (t / 2) htb (a' j - 1) hlast (by omega) (Int.le_trans hle hpg)
     omega
   ·exact g4 j (by omega)
  ·have h':i < a:=by simpa using h
   obtain⟨t,ht,htm,he⟩:=h5 i hi h'
   exact⟨t,ht,htm,by show X[i].1≤(merge X (pairs (lists X k)))[t].1; rw [he]; exact Int.le_refl _⟩
theorem lists_long (X:List Coin):∀ k,(X.length:Int) * (2 ^ (k+1) - 1) < (((lists X k).length:Int)+1) * 2 ^ k
 | 0=>by
  show (X.length:Int) * (2 ^ 1 - 1) < ((X.length:Int)+1) * 1
  omega
 | k+1=>by
  have ih:=lists_long X k
  rw[lists_length]
  generalize (lists X k).length=l at ih ⊢
  have e1:(2:Int) ^ (k+1)=2 ^ k * 2:=Int.pow_succ _ _
  have e2:(2:Int) ^ (k+1+1)=2 ^ k * 2 * 2:=by rw [Int.pow_succ,e1]
  have hq:(0:Int) < 2 ^ k:=Int.pow_pos (by omega)
  rw[e1] at ih
  rw[e2,e1]
  generalize (2:Int) ^ k=q at ih hq ⊢
  generalize X.length=n at ih ⊢
  have k1:((l:Int)+1) * q≤(((l / 2:Nat):Int)+1) * (q * 2):=by
   have:((l:Int)+1)≤(((l / 2:Nat):Int)+1) * 2:=by omega
   have k2:=Int.mul_le_mul_of_nonneg_right this (Int.le_of_lt hq)
   rw[Int.mul_assoc,Int.mul_comm 2 q] at k2
   exact k2
  have k3:(((n+l / 2:Nat):Int)+1) * (q * 2)=(n:Int) * (q * 2)+(((l / 2:Nat):Int)+1) * (q * 2):=by
   rw[← Int.add_mul,show ((n+l / 2:Nat):Int)+1=(n:Int)+(((l / 2:Nat):Int)+1) by omega]
  have k4:(n:Int) * (q * 2 * 2 - 1)=(n:Int) * (q * 2)+(n:Int) * (q * 2 - 1):=by
   rw[← Int.mul_add,show q * 2 * 2 - 1=q * 2+(q * 2 - 1) by omega]
  omega
theorem sm_next {l:List Coin} (h:Asc l) (z:Int) (hz:∀ y∈l,z≤y.1):∀ b,b < l.length→sm w1 (l.take b)+z≤sm w1 (l.take (b+1)):=by
 intro b hb
 induction l generalizing b with
 | nil=>simp at hb
 | cons x l ih=>
  cases b with
  | zero=>
   have:=hz x (by simp)
   simp[sm,w1]
   omega
  | succ b=>
   have:=ih h.2.2 (fun y hy=>hz y (by simp [hy])) b (by simp at hb; omega)
   show w1 x+sm w1 (l.take b)+z≤w1 x+sm w1 (l.take (b+1))
   omega
theorem merge_le {X Y:List Coin} (hX:Asc X) (hY:Asc Y):∀ a b,a≤X.length→b≤Y.length→sm w1 ((merge X Y).take (a+b))≤sm w1 (X.take a)+sm w1 (Y.take b):=by
 induction X generalizing Y with
 | nil=>
  intro a b ha hb
  have:a=0:=by simpa using ha
  subst this
  simp[merge,sm]
 | cons x X ih=>
  induction Y with
  | nil=>
   intro a b ha hb
   have:b=0:=by simpa using hb
   subst this
   simp[merge,sm]
  | cons y Y ihy=>
   intro a b ha hb
   rw[merge_cons]
   by_cases hxy:x.1≤y.1
   ·rw[if_pos hxy]
    cases a with
    | succ a=>
     have k:=ih hX.2.2 hY a b (by simp at ha; omega) hb
     rw[show a+1+b=a+b+1 by omega]
     show w1 x+sm w1 ((merge X (y :: Y)).take (a+b))≤w1 x+sm w1 (X.take a)+_
     omega
    | zero=>
     cases b with
     | zero=>simp [sm]
     | succ b=>
      have k:=ih hX.2.2 hY 0 b (by omega) (by omega)
      have z:=sm_next hY x.1 (fun u hu=>by
       rcases List.mem_cons.mp hu with rfl | hu
       ·exact hxy
       ·have:=hY.2.1 u hu; omega) b (by omega)
      rw[show 0+(b+1)=0+b+1 by omega]
      show w1 x+sm w1 ((merge X (y :: Y)).take (0+b))≤0+sm w1 ((y :: Y).take (b+1))
      have e:sm w1 (X.take 0)=0:=by simp [sm]
      have e2:w1 x=x.1:=rfl
      omega
   ·rw[if_neg hxy]
    cases b with
    | succ b=>
     have k:=ihy hY.2.2 a b ha (by simp at hb; omega)
     rw[show a+(b+1)=a+b+1 by omega]
     show w1 y+sm w1 ((merge (x :: X) Y).take (a+b))≤_+(w1 y+sm w1 (Y.take b))
     omega
    | zero=>
     cases a with
     | zero=>simp [sm]
     | succ a=>
      have k:=ihy hY.2.2 a 0 (by omega) (by omega)
      have z:=sm_next hX y.1 (fun u hu=>by
       rcases List.mem_cons.mp hu with rfl | hu
       ·omega
       ·have:=hX.2.1 u hu; omega) a (by omega)
      rw[show a+1+0=a+0+1 by omega]
      show w1 y+sm w1 ((merge (x :: X) Y).take (a+0))≤sm w1 ((x :: X).take (a+1))+0
      have e:sm w1 (Y.take 0)=0:=by simp [sm]
      have e2:w1 y=y.1:=rfl
      omega
end PackageMath
end
end Go.Proofs.YtklpiihnbokkkaaGreatDoor
