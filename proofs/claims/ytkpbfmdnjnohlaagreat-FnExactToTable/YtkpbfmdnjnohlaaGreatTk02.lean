/-
  Texts of the proof, put together.
-/
import Derived.Test.YtkpbfmdnjnohlaaGreatTk01
import Derived.Deep.AppendLies
import Derived.Laws.AppendOwnNone
namespace Go.Proofs.YtkpbfmdnjnohlaaGreat
section
namespace RastMath
def chan (c:Int):Int:=if c=0∨c=3 then 1 else if c=2 then 3 else if c=4 then 2 else if c=6 then 4 else 0
abbrev Five (d:Int):Prop:=d=1∨d=2∨d=4∨d=8∨d=16
abbrev DepthR (c d:Int):Prop:=(c=0∧Five d)∨(c=3∧Five d∧d≠16)∨((c=2∨c=4∨c=6)∧(d=8∨d=16))
abbrev SideR (n:Int):Prop:=1≤n∧n≤24
theorem chan_range (c:Int):0≤chan c∧chan c≤4:=by
 unfold chan
 repeat' split
 all_goals omega
theorem chan_pos {c d:Int} (h:DepthR c d):1≤chan c:=by
 unfold chan
 rcases h with ⟨rfl,_⟩ | ⟨rfl,_⟩ | ⟨rfl | rfl | rfl,_⟩ <;> decide
theorem depth_five {c d:Int} (h:DepthR c d):Five d:=by
 rcases h with ⟨_,h⟩ | ⟨_,h,_⟩ | ⟨_,h⟩
 ·exact h
 ·exact h
 ·exact .inr (.inr (.inr h))
theorem five_range {d:Int} (h:Five d):1≤d∧d≤16:=by
 unfold Five at h
 omega
end RastMath
end
section
namespace CrcMath
def byteAt (s:ByteArray) (i:Nat):Nat:=(s.data[i]?.getD 0).toNat
theorem byteAt_get (s:ByteArray) (i:Nat) (h:i < s.size):(s[i]'h).toNat=byteAt s i:=by
 unfold byteAt
 have h':i < s.data.size:=h
 rw[Array.getElem?_eq_getElem h']
 rfl
end CrcMath
end
section
namespace ChunkMath
open Go.RowKit OutMath BigMath BigTextMath CrcMath
abbrev LetterR (b:Nat):Prop:=65≤b∧b≤90∨97≤b∧b≤122
abbrev NameR (n:ByteArray):Prop:=n.size=4∧LetterR (byteAt n 0)∧LetterR (byteAt n 1)∧LetterR (byteAt n 2)∧LetterR (byteAt n 3)∧byteAt n 2≤90
abbrev Chk:=ByteArray×ByteArray
theorem bx_ext {a b:ByteArray} (h:a.data.toList=b.data.toList):a=b:=by
 obtain⟨x⟩:=a
 obtain⟨y⟩:=b
 congr 1
 exact Array.ext' h
theorem bx_app (a b:ByteArray):(a ++ b).data.toList=a.data.toList ++ b.data.toList:=by
 obtain⟨x⟩:=a
 obtain⟨y⟩:=b
 show (ByteArray.mk x ++ ByteArray.mk y).data.toList=_
 simp
theorem bx_len (a:ByteArray):a.data.toList.length=a.size:=by simp
theorem bx_size (a b:ByteArray):(a ++ b).size=a.size+b.size:=by rw [← bx_len,bx_app,List.length_append,bx_len,bx_len]
end ChunkMath
end
section
namespace HeadMath
open Go.RowKit OutMath BigMath BigTextMath RastMath
abbrev Rgb3:=Int×Int×Int
abbrev HeadR (x y d c:Int):Prop:=SideR x∧SideR y∧DepthR c d
def tb (t:ByteArray) (i:Nat):Nat:=(t.data[i]?.getD 0).toNat
def hx (t:ByteArray):Int:=rb t 0 4
def hy (t:ByteArray):Int:=rb t 4 4
def hd (t:ByteArray):Int:=(tb t 8:Int)
def hc (t:ByteArray):Int:=(tb t 9:Int)
def hl (t:ByteArray):Bool:=(tb t 12:Int) == 1
abbrev RgbR (c:Rgb3):Prop:=(0≤c.1∧c.1≤255)∧(0≤c.2.1∧c.2.1≤255)∧(0≤c.2.2∧c.2.2≤255)
def colN (F:Nat→Rgb3):Nat→List Int
 | 0=>[]
 | n+1=>colN F n ++ [(F n).1,(F n).2.1,(F n).2.2]
theorem colN_next (F:Nat→Rgb3) (n:Nat):colN F (n+1)=colN F n ++ [(F n).1,(F n).2.1,(F n).2.2]:=rfl
theorem colN_length (F:Nat→Rgb3):∀ n,(colN F n).length=3 * n
 | 0=>rfl
 | n+1=>by rw [colN_next,List.length_append,colN_length F n]; rfl
def tableT (F:Nat→Rgb3) (n:Nat):ByteArray:=strOfNums (colN F n)
def TableR (F:Nat→Rgb3) (n:Nat):Prop:=(1≤n∧n≤256)∧∀ i,i < n→RgbR (F i)
end HeadMath
end
section
open Go.RowKit Go.Joins HeadMath
theorem info_rgb:(Tryz.prog.info? 74).map (fun i=>(i.zero,i.size,i.bytes))=some (some (.agg #[.int .i64 0,.int .i64 0,.int .i64 0]),3,24):=by kernel_rfl
def rgbTcells:List Rgb3→List Value
 | []=>[]
 | c :: l=>.int .i64 c.1 :: .int .i64 c.2.1 :: .int .i64 c.2.2 :: rgbTcells l
theorem rgbTcells_length:∀ l:List Rgb3,(rgbTcells l).length=l.length * 3
 | []=>rfl
 | c :: l=>by
  show (rgbTcells l).length+1+1+1=(l.length+1) * 3
  rw[rgbTcells_length l]
  omega
theorem rgbTcells_app:∀ xs ys:List Rgb3,rgbTcells (xs ++ ys)=rgbTcells xs ++ rgbTcells ys
 | [],ys=>rfl
 | c :: l,ys=>by
  show Value.int .i64 c.1 :: .int .i64 c.2.1 :: .int .i64 c.2.2 :: rgbTcells (l ++ ys)=Value.int .i64 c.1 :: .int .i64 c.2.1 :: .int .i64 c.2.2 :: (rgbTcells l ++ rgbTcells ys)
  rw[rgbTcells_app l ys]
theorem rgbTcells_get:∀ (l:List Rgb3) (i:Nat),i < l.length→(rgbTcells l)[i * 3]?=some (.int .i64 (l.getD i (0,0,0)).1)∧(rgbTcells l)[i * 3+1]?=some (.int .i64 (l.getD i (0,0,0)).2.1)∧(rgbTcells l)[i * 3+2]?=some (.int .i64 (l.getD i (0,0,0)).2.2)
 | [],i,h=>by simp at h
 | c :: l,0,_=>⟨rfl,rfl,rfl⟩
 | c :: l,i+1,h=>by
  have q:=rgbTcells_get l i (by simpa using h)
  rw[show (i+1) * 3=i * 3+1+1+1 by omega]
  exact q
theorem rgbTcells_one:∀ (l:List Rgb3),∀ u∈rgbTcells l,u.oneCell'=true
 | [],u,h=>by cases h
 | c :: l,u,h=>by
  rcases List.mem_cons.mp h with rfl | h
  ·rfl
  ·rcases List.mem_cons.mp h with rfl | h
   ·rfl
   ·rcases List.mem_cons.mp h with rfl | h
    ·rfl
    ·exact rgbTcells_one l u h
def RgbCame (w:World) (a:Option Addr) (n:Nat) (F:Nat→Rgb3):Prop:=
 n=0∨∃ g off,a=some ⟨g,off,none⟩∧g < w.heap.size∧∀ j,j < n→w.cell? ⟨g,off+j * 3,none⟩=some (.int .i64 (F j).1)∧w.cell? ⟨g,off+j * 3+1,none⟩=some (.int .i64 (F j).2.1)∧w.cell? ⟨g,off+j * 3+2,none⟩=some (.int .i64 (F j).2.2)
theorem RgbCame.called {w w':World} {a:Option Addr} {n:Nat} {F:Nat→Rgb3} (h:RgbCame w a n F) (hb:Below w.heap.size w w'):RgbCame w' a n F:=by
 rcases h with h | ⟨g,off,ha,hg,hc⟩
 ·exact .inl h
 ·exact .inr ⟨g,off,ha,Nat.lt_of_lt_of_le hg hb.size,fun j hj=>⟨(hb.cell (p:=⟨g,off+j * 3,none⟩) hg).trans (hc j hj).1,(hb.cell (p:=⟨g,off+j * 3+1,none⟩) hg).trans (hc j hj).2.1,(hb.cell (p:=⟨g,off+j * 3+2,none⟩) hg).trans (hc j hj).2.2⟩⟩
theorem RgbCame.congr {w:World} {a:Option Addr} {n:Nat} {F G:Nat→Rgb3} (h:RgbCame w a n F) (e:∀ j,j < n→F j=G j):RgbCame w a n G:=by
 rcases h with h | ⟨g,off,ha,hg,hc⟩
 ·exact .inl h
 ·exact .inr ⟨g,off,ha,hg,fun j hj=>by rw [← e j hj]; exact hc j hj⟩
def RgbOwn (w:World) (base g n:Nat) (F:Nat→Rgb3):Prop:=base≤g∧∃ cur,w.heap[g]?=some (.cells cur 74 (0,0))∧n * 3≤cur.size∧∀ j,j < n→cur[j * 3]?=some (.int .i64 (F j).1)∧cur[j * 3+1]?=some (.int .i64 (F j).2.1)∧cur[j * 3+2]?=some (.int .i64 (F j).2.2)
theorem RgbOwn.lt {w:World} {base g n:Nat} {F:Nat→Rgb3} (h:RgbOwn w base g n F):g < w.heap.size:=by
 obtain⟨_,cur,h2,_⟩:=h
 exact block_lt h2
theorem RgbOwn.keep {w w':World} {base g n:Nat} {F:Nat→Rgb3} (h:RgbOwn w base g n F) (hk:w'.heap[g]?=w.heap[g]?):RgbOwn w' base g n F:=by
 obtain⟨h1,cur,h2,h3⟩:=h
 exact⟨h1,cur,hk.trans h2,h3⟩
theorem RgbOwn.called {w w':World} {base g n:Nat} {F:Nat→Rgb3} (h:RgbOwn w base g n F) (hb:Below w.heap.size w w'):RgbOwn w' base g n F:=h.keep (hb.block g h.lt)
theorem RgbOwn.came {w:World} {base g n:Nat} {F:Nat→Rgb3} (h:RgbOwn w base g n F):RgbCame w (some ⟨g,0,none⟩) n F:=by
 refine .inr ⟨g,0,rfl,h.lt,fun j hj=>?_⟩
 obtain⟨_,cur,h2,h3,h4⟩:=h
 rw[Nat.zero_add,cell_of_block h2,cell_of_block h2,cell_of_block h2]
 exact h4 j hj
theorem rgbTcame_of_own {w:World} {S n:Nat} {v:Value} {L:List Rgb3} (h:w.ownsRow S 74 3 v n (rgbTcells L)) (hn:n=L.length):∃ a c,v=.slice a L.length c∧L.length≤c∧c≤maxLen∧(a=none→c=0)∧RgbCame w a L.length (fun j=>L.getD j (0,0,0))∧(∀ ad,a=some ad→∃ g,ad=⟨g,0,none⟩∧S≤g):=by
 subst hn
 rcases h.2 with ⟨rfl,h0⟩ | ⟨g,cap,cur,rfl,hb,hg,hc,hm,hs,ht⟩
 ·exact⟨none,0,by rw [h0],by omega,Nat.zero_le _,fun _=>rfl,.inl h0,fun ad e=>by cases e⟩
 ·refine⟨_,cap,rfl,hc,hm,(fun e=>by cases e),.inr ⟨g,0,rfl,block_lt hg,fun j hj=>?_⟩,fun ad e=>by cases e; exact⟨g,rfl,hb⟩⟩
  have q:=rgbTcells_get L j hj
  rw[Nat.zero_add,h.cellAt (j * 3) (by omega),h.cellAt (j * 3+1) (by omega),h.cellAt (j * 3+2) (by omega)]
  exact q
theorem rgb_called {w w':World} {S n:Nat} {v:Value} {L:List Rgb3} (h:w.ownsRow S 74 3 v n (rgbTcells L)) (hb:Below w.heap.size w w'):w'.ownsRow S 74 3 v n (rgbTcells L):=by
 refine⟨h.1,?_⟩
 rcases h.2 with h | ⟨g,cap,cur,rfl,h1,h2,h3⟩
 ·exact .inl h
 ·exact .inr ⟨g,cap,cur,rfl,h1,(hb.block g (block_lt h2)).trans h2,h3⟩
end
section
open Go.RowKit Go.Joins
theorem info_chk:(Tryz.prog.info? 93).map (fun i=>(i.zero,i.size,i.bytes))=some (some (.agg #[.string ByteArray.empty,.string ByteArray.empty]),2,32):=by kernel_rfl
def kcells:List (ByteArray×ByteArray)→List Value
 | []=>[]
 | c :: l=>.string c.1 :: .string c.2 :: kcells l
theorem dcells_length:∀ l:List (ByteArray×ByteArray),(kcells l).length=l.length * 2
 | []=>rfl
 | c :: l=>by
  show (kcells l).length+1+1=(l.length+1) * 2
  rw[dcells_length l]
  omega
theorem dcells_app:∀ xs ys:List (ByteArray×ByteArray),kcells (xs ++ ys)=kcells xs ++ kcells ys
 | [],ys=>rfl
 | c :: l,ys=>by
  show Value.string c.1 :: .string c.2 :: kcells (l ++ ys)=Value.string c.1 :: .string c.2 :: (kcells l ++ kcells ys)
  rw[dcells_app l ys]
theorem dcells_get0:∀ (l:List (ByteArray×ByteArray)) (i:Nat),i < l.length→(kcells l)[i * 2]?=some (.string (l.getD i (ByteArray.empty,ByteArray.empty)).1)
 | [],i,h=>by simp at h
 | c :: l,0,_=>rfl
 | c :: l,i+1,h=>by
  rw[show (i+1) * 2=i * 2+1+1 by omega]
  show (kcells l)[i * 2]?=some (.string (l.getD i (ByteArray.empty,ByteArray.empty)).1)
  exact dcells_get0 l i (by simpa using h)
theorem dcells_get1:∀ (l:List (ByteArray×ByteArray)) (i:Nat),i < l.length→(kcells l)[i * 2+1]?=some (.string ((l.getD i (ByteArray.empty,ByteArray.empty)).2))
 | [],i,h=>by simp at h
 | c :: l,0,_=>rfl
 | c :: l,i+1,h=>by
  rw[show (i+1) * 2+1=i * 2+1+1+1 by omega]
  show (kcells l)[i * 2+1]?=some (.string ((l.getD i (ByteArray.empty,ByteArray.empty)).2))
  exact dcells_get1 l i (by simpa using h)
theorem dcells_one:∀ (l:List (ByteArray×ByteArray)),∀ u∈kcells l,u.oneCell'=true
 | [],u,h=>by cases h
 | c :: l,u,h=>by
  rcases List.mem_cons.mp h with rfl | h
  ·rfl
  ·rcases List.mem_cons.mp h with rfl | h
   ·rfl
   ·exact dcells_one l u h
section
variable {w w':World} {B:Nat} {a:Option Addr} {c:Nat} {L:List (ByteArray×ByteArray)} {x:ByteArray×ByteArray}
end
theorem run_append_none_any {P:Program} {w:World} (base:Nat) (t ty e:TypeId) (i:TypeInfo) (size:Nat) (ht:P.underlying t=some (.slice e)) (hi:P.info? e=some i) (v:Value) (n c:Nat) (xs:List Value) (hown:w.ownsRow base e size v n xs):
  (Builtin.append_ #[t,t] ty #[v,.slice none 0 c]).run P w=.ok v w:=by
 rcases hown.2 with ⟨rfl,rfl⟩ | ⟨g,cap,cur,rfl,_,_,hnc,_⟩
 ·simp[Builtin.append_,run_underlying ht,sizeOf,typeInfo,hi,Builtin.lenOf,Builtin.firstCells]
 ·simp[Builtin.append_,run_underlying ht,sizeOf,typeInfo,hi,Builtin.lenOf,Builtin.firstCells,hnc,storeCells]
theorem append_none_any {P:Program} {w:World} {ops:Array Oper} {rest:List Oper} {o:Oper} {a:Act} {Q:Exit→Act→World→Prop} (hgd:o.guard=none) (s x:Operand) (t:TypeId)
  (ho:o.op=.call { callee:=.builtin .append,args:=#[s,x],argTypes:=#[t,t] })
  (base:Nat) (e:TypeId) (i:TypeInfo) (size:Nat) (ht:P.underlying t=some (.slice e)) (hi:P.info? e=some i)
  (v:Value) (n c:Nat) (xs:List Value) (hs:a.eval s=v) (hown:w.ownsRow base e size v n xs) (hx:a.eval x=.slice none 0 c)
  (h:wpList P ops Q rest (a.put o.dst v) w):wpList P ops Q (o :: rest) a w:=by
 refine wpList_plain hgd fun K hK=>?_
 have hrun:=run_append_none_any (P:=P) (w:=w) base t o.type e i size ht hi v n c xs hown
 unfold Oper.wp
 simp[execOp,ho,resolve,invoke,builtin,hs,hx,hrun,Result.andThen]
 exact hK _ _ h
theorem chks_append {w:World} {S:Nat} {v:Value} {xs ys:List (ByteArray×ByteArray)} {ops:Array Oper} {rest:List Oper} {o:Oper} {a:Act} {Q:Exit→Act→World→Prop} (hgd:o.guard=none) (s x:Operand)
  (ho:o.op=.call { callee:=.builtin .append,args:=#[s,x],argTypes:=#[35,35] }) (hs:a.eval s=v) (h:w.ownsRow S 93 2 v xs.length (kcells xs)) (ao:Option Addr) (m c:Nat) (hx:a.eval x=.slice ao m c) (hm:ys.length=m)
  (hc:∀ ad,ao=some ad→∀ j u,(kcells ys)[j]?=some u→w.cell? (ad.add j)=some u) (hn:ao=none→m=0)
  (h63:xs.length+ys.length≤16777216) (hS:S≤w.heap.size)
  (hK:∀ v' w',w'.ownsRow S 93 2 v' (xs ++ ys).length (kcells (xs ++ ys))→w.grownBy w' v.ownBlock→wpList Tryz.prog ops Q rest (a.put o.dst v') w'):wpList Tryz.prog ops Q (o :: rest) a w:=by
 obtain⟨i0,hi0,hz0,hz1,hz2⟩:=info_parts info_chk
 cases ao with
 | none=>
  obtain rfl:=hn rfl
  obtain rfl:ys=[]:=List.eq_nil_of_length_eq_zero hm
  refine append_none_any hgd s x _ ho S 93 i0 2 Tryz.underlying35 hi0 v _ c _ hs h hx (hK v w (by simpa using h) ⟨rfl,rfl,rfl,Nat.le_refl _,fun _ _ _=>rfl⟩)
 | some ad=>
  refine wpList_append_own_at w hgd s x _ ho S 93 i0 _ 2 32 Tryz.underlying35 hi0 hz0 hz1 hz2 rfl (by omega) v _ _ hs h ad m c (kcells ys) hx (by rw [dcells_length,hm]) (hc ad rfl) (dcells_one ys) (by unfold maxLen; omega) (by omega) hS ?_
  intro v' w' hown hg _ _
  refine hK v' w' ?_ hg
  rw[List.length_append,dcells_app,hm]
  exact hown
end
end Go.Proofs.YtkpbfmdnjnohlaaGreat
