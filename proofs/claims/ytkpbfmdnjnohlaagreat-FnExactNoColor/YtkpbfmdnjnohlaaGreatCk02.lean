/-
  Texts of the proof, put together.
-/
import Derived.Test.YtkpbfmdnjnohlaaGreatCk01
import Derived.Deep.AppendLies
import Derived.Laws.AppendOwnNone
import Derived.WalkLawsBesides
import Derived.Shelf.SlSortCmp.QuietGrown
namespace Go.Proofs.YtkpbfmdnjnohlaaGreat
section
open Go.RowKit Go.Joins HeadMath
theorem info_rgb:(Tryz.prog.info? 74).map (fun i=>(i.zero,i.size,i.bytes))=some (some (.agg #[.int .i64 0,.int .i64 0,.int .i64 0]),3,24):=by kernel_rfl
def RgbCame (w:World) (a:Option Addr) (n:Nat) (F:Nat→Rgb3):Prop:=
 n=0∨∃ g off,a=some ⟨g,off,none⟩∧g < w.heap.size∧∀ j,j < n→w.cell? ⟨g,off+j * 3,none⟩=some (.int .i64 (F j).1)∧w.cell? ⟨g,off+j * 3+1,none⟩=some (.int .i64 (F j).2.1)∧w.cell? ⟨g,off+j * 3+2,none⟩=some (.int .i64 (F j).2.2)
theorem RgbCame.called {w w':World} {a:Option Addr} {n:Nat} {F:Nat→Rgb3} (h:RgbCame w a n F) (hb:Below w.heap.size w w'):RgbCame w' a n F:=by
 rcases h with h | ⟨g,off,ha,hg,hc⟩
 ·exact .inl h
 ·exact .inr ⟨g,off,ha,Nat.lt_of_lt_of_le hg hb.size,fun j hj=>⟨(hb.cell (p:=⟨g,off+j * 3,none⟩) hg).trans (hc j hj).1,(hb.cell (p:=⟨g,off+j * 3+1,none⟩) hg).trans (hc j hj).2.1,(hb.cell (p:=⟨g,off+j * 3+2,none⟩) hg).trans (hc j hj).2.2⟩⟩
theorem RgbCame.congr {w:World} {a:Option Addr} {n:Nat} {F G:Nat→Rgb3} (h:RgbCame w a n F) (e:∀ j,j < n→F j=G j):RgbCame w a n G:=by
 rcases h with h | ⟨g,off,ha,hg,hc⟩
 ·exact .inl h
 ·exact .inr ⟨g,off,ha,hg,fun j hj=>by rw [← e j hj]; exact hc j hj⟩
def RgbOwn (w:World) (base g n:Nat) (F:Nat→Rgb3):Prop:=base≤g∧∃ cur,w.heap[g]?=some (.cells cur 74 (0,0))∧n * 3≤cur.size∧∀ j,j < n→cur[j * 3]?=some (.int .i64 (F j).1)∧cur[j * 3+1]?=some (.int .i64 (F j).2.1)∧cur[j * 3+2]?=some (.int .i64 (F j).2.2)
theorem RgbOwn.lt {w:World} {base g n:Nat} {F:Nat→Rgb3} (h:RgbOwn w base g n F):g < w.heap.size:=by
 obtain⟨_,cur,h2,_⟩:=h
 exact block_lt h2
theorem RgbOwn.keep {w w':World} {base g n:Nat} {F:Nat→Rgb3} (h:RgbOwn w base g n F) (hk:w'.heap[g]?=w.heap[g]?):RgbOwn w' base g n F:=by
 obtain⟨h1,cur,h2,h3⟩:=h
 exact⟨h1,cur,hk.trans h2,h3⟩
theorem RgbOwn.called {w w':World} {base g n:Nat} {F:Nat→Rgb3} (h:RgbOwn w base g n F) (hb:Below w.heap.size w w'):RgbOwn w' base g n F:=h.keep (hb.block g h.lt)
theorem RgbOwn.came {w:World} {base g n:Nat} {F:Nat→Rgb3} (h:RgbOwn w base g n F):RgbCame w (some ⟨g,0,none⟩) n F:=by
 refine .inr ⟨g,0,rfl,h.lt,fun j hj=>?_⟩
 obtain⟨_,cur,h2,h3,h4⟩:=h
 rw[Nat.zero_add,cell_of_block h2,cell_of_block h2,cell_of_block h2]
 exact h4 j hj
end
section
open Go.RowKit Go.Joins
theorem info_chk:(Tryz.prog.info? 93).map (fun i=>(i.zero,i.size,i.bytes))=some (some (.agg #[.string ByteArray.empty,.string ByteArray.empty]),2,32):=by kernel_rfl
def kcells:List (ByteArray×ByteArray)→List Value
 | []=>[]
 | c :: l=>.string c.1 :: .string c.2 :: kcells l
theorem dcells_length:∀ l:List (ByteArray×ByteArray),(kcells l).length=l.length * 2
 | []=>rfl
 | c :: l=>by
  show (kcells l).length+1+1=(l.length+1) * 2
  rw[dcells_length l]
  omega
theorem dcells_app:∀ xs ys:List (ByteArray×ByteArray),kcells (xs ++ ys)=kcells xs ++ kcells ys
 | [],ys=>rfl
 | c :: l,ys=>by
  show Value.string c.1 :: .string c.2 :: kcells (l ++ ys)=Value.string c.1 :: .string c.2 :: (kcells l ++ kcells ys)
  rw[dcells_app l ys]
theorem dcells_get0:∀ (l:List (ByteArray×ByteArray)) (i:Nat),i < l.length→(kcells l)[i * 2]?=some (.string (l.getD i (ByteArray.empty,ByteArray.empty)).1)
 | [],i,h=>by simp at h
 | c :: l,0,_=>rfl
 | c :: l,i+1,h=>by
  rw[show (i+1) * 2=i * 2+1+1 by omega]
  show (kcells l)[i * 2]?=some (.string (l.getD i (ByteArray.empty,ByteArray.empty)).1)
  exact dcells_get0 l i (by simpa using h)
theorem dcells_get1:∀ (l:List (ByteArray×ByteArray)) (i:Nat),i < l.length→(kcells l)[i * 2+1]?=some (.string ((l.getD i (ByteArray.empty,ByteArray.empty)).2))
 | [],i,h=>by simp at h
 | c :: l,0,_=>rfl
 | c :: l,i+1,h=>by
  rw[show (i+1) * 2+1=i * 2+1+1+1 by omega]
  show (kcells l)[i * 2+1]?=some (.string ((l.getD i (ByteArray.empty,ByteArray.empty)).2))
  exact dcells_get1 l i (by simpa using h)
theorem dcells_one:∀ (l:List (ByteArray×ByteArray)),∀ u∈kcells l,u.oneCell'=true
 | [],u,h=>by cases h
 | c :: l,u,h=>by
  rcases List.mem_cons.mp h with rfl | h
  ·rfl
  ·rcases List.mem_cons.mp h with rfl | h
   ·rfl
   ·exact dcells_one l u h
section
variable {w w':World} {B:Nat} {a:Option Addr} {c:Nat} {L:List (ByteArray×ByteArray)} {x:ByteArray×ByteArray}
end
theorem chks_append {w:World} {S:Nat} {v:Value} {xs ys:List (ByteArray×ByteArray)} {ops:Array Oper} {rest:List Oper} {o:Oper} {a:Act} {Q:Exit→Act→World→Prop} (hgd:o.guard=none) (s x:Operand)
  (ho:o.op=.call { callee:=.builtin .append,args:=#[s,x],argTypes:=#[35,35] }) (hs:a.eval s=v) (h:w.ownsRow S 93 2 v xs.length (kcells xs)) (ao:Option Addr) (m c:Nat) (hx:a.eval x=.slice ao m c) (hm:ys.length=m)
  (hc:∀ ad,ao=some ad→∀ j u,(kcells ys)[j]?=some u→w.cell? (ad.add j)=some u) (hn:ao=none→m=0∧c=0)
  (h63:xs.length+ys.length≤100000) (hS:S≤w.heap.size)
  (hK:∀ v' w',w'.ownsRow S 93 2 v' (xs ++ ys).length (kcells (xs ++ ys))→w.grownBy w' v.ownBlock→wpList Tryz.prog ops Q rest (a.put o.dst v') w'):wpList Tryz.prog ops Q (o :: rest) a w:=by
 obtain⟨i0,hi0,hz0,hz1,hz2⟩:=info_parts info_chk
 cases ao with
 | none=>
  obtain⟨rfl,rfl⟩:=hn rfl
  obtain rfl:ys=[]:=List.eq_nil_of_length_eq_zero hm
  refine wpList_append_own_none hgd s x _ ho S 93 i0 2 Tryz.underlying35 hi0 v _ _ hs h hx (hK v w (by simpa using h) ⟨rfl,rfl,rfl,Nat.le_refl _,fun _ _ _=>rfl⟩)
 | some ad=>
  refine wpList_append_own_at w hgd s x _ ho S 93 i0 _ 2 32 Tryz.underlying35 hi0 hz0 hz1 hz2 rfl (by omega) v _ _ hs h ad m c (kcells ys) hx (by rw [dcells_length,hm]) (hc ad rfl) (dcells_one ys) (by unfold maxLen; omega) (by omega) hS ?_
  intro v' w' hown hg _ _
  refine hK v' w' ?_ hg
  rw[List.length_append,dcells_app,hm]
  exact hown
end
section
open Go.RowKit Go.Joins Go.Sort
def KCame (w:World) (a:Option Addr) (n:Nat) (F:Nat→ByteArray×ByteArray):Prop:=
 n=0∨∃ g off,a=some ⟨g,off,none⟩∧g < w.heap.size∧∀ j,j < n→w.cell? ⟨g,off+j * 2,none⟩=some (.string (F j).1)∧w.cell? ⟨g,off+j * 2+1,none⟩=some (.string (F j).2)
theorem KCame.called {w w':World} {a:Option Addr} {n:Nat} {F:Nat→ByteArray×ByteArray} (h:KCame w a n F) (hb:Below w.heap.size w w'):KCame w' a n F:=by
 rcases h with h | ⟨g,off,ha,hg,hc⟩
 ·exact .inl h
 ·exact .inr ⟨g,off,ha,Nat.lt_of_lt_of_le hg hb.size,fun j hj=>⟨(hb.cell (p:=⟨g,off+j * 2,none⟩) hg).trans (hc j hj).1,(hb.cell (p:=⟨g,off+j * 2+1,none⟩) hg).trans (hc j hj).2⟩⟩
theorem KCame.grown {w w':World} {a:Option Addr} {n B:Nat} {F:Nat→ByteArray×ByteArray} {row:Option Nat} (h:KCame w a n F) (hB:∀ g off,a=some ⟨g,off,none⟩→g < B) (hr:∀ k,row=some k→B≤k) (hg:w.grownBy w' row):KCame w' a n F:=by
 rcases h with h | ⟨g,off,ha,hlt,hc⟩
 ·exact .inl h
 ·have hne:some g≠row:=fun e=>by have h1:=hB g off ha; have h2:=hr g e.symm; omega
  have hb:=hg.block g hlt hne
  exact .inr ⟨g,off,ha,Nat.lt_of_lt_of_le hlt hg.size,fun j hj=>⟨(World.cell?_of_block (w:=w) hb).trans (hc j hj).1,(World.cell?_of_block (w:=w) hb).trans (hc j hj).2⟩⟩
def KOwn (w:World) (base g n:Nat) (F:Nat→ByteArray×ByteArray):Prop:=base≤g∧∃ cur,w.heap[g]?=some (.cells cur 93 (0,0))∧n * 2≤cur.size∧∀ j,j < n→cur[j * 2]?=some (.string (F j).1)∧cur[j * 2+1]?=some (.string (F j).2)
theorem KOwn.lt {w:World} {base g n:Nat} {F:Nat→ByteArray×ByteArray} (h:KOwn w base g n F):g < w.heap.size:=by
 obtain⟨_,cur,h2,_⟩:=h
 exact block_lt h2
theorem KOwn.keep {w w':World} {base g n:Nat} {F:Nat→ByteArray×ByteArray} (h:KOwn w base g n F) (hk:w'.heap[g]?=w.heap[g]?):KOwn w' base g n F:=by
 obtain⟨h1,cur,h2,h3⟩:=h
 exact⟨h1,cur,hk.trans h2,h3⟩
theorem KOwn.called {w w':World} {base g n:Nat} {F:Nat→ByteArray×ByteArray} (h:KOwn w base g n F) (hb:Below w.heap.size w w'):KOwn w' base g n F:=h.keep (hb.block g h.lt)
theorem KOwn.came {w:World} {base g n:Nat} {F:Nat→ByteArray×ByteArray} (h:KOwn w base g n F):KCame w (some ⟨g,0,none⟩) n F:=by
 refine .inr ⟨g,0,rfl,h.lt,fun j hj=>?_⟩
 obtain⟨_,cur,h2,h3,h4⟩:=h
 rw[Nat.zero_add,cell_of_block h2,cell_of_block h2]
 exact h4 j hj
theorem KOwn.free {w:World} {base g n:Nat} {F:Nat→ByteArray×ByteArray} (h:KOwn w base g n F) (k:Nat):w.frozen? ⟨g,k,none⟩=false:=by
 obtain⟨_,cur,h2,_⟩:=h
 simp[World.frozen?,h2]
def updK (F:Nat→ByteArray×ByteArray) (j:Nat) (x:ByteArray×ByteArray):Nat→ByteArray×ByteArray:=fun i=>if i=j then x else F i
theorem KOwn.set {w:World} {base g n:Nat} {F:Nat→ByteArray×ByteArray} (h:KOwn w base g n F) (j:Nat) (hj:j < n) (x y:ByteArray):KOwn ((w.setCell ⟨g,j * 2,none⟩ (.string x)).setCell ⟨g,j * 2+1,none⟩ (.string y)) base g n (updK F j (x,y)):=by
 obtain⟨h1,cur,h2,h3,h4⟩:=h
 refine⟨h1,(cur.setIfInBounds (j * 2) (.string x)).setIfInBounds (j * 2+1) (.string y),?_,by simpa using h3,fun i hi=>?_⟩
 ·simp[World.setCell,Array.getElem?_modify,h2]
 ·obtain⟨k1,k2⟩:=h4 i hi
  unfold updK
  by_cases e:i=j
  ·subst e
   rw[if_pos rfl]
   refine⟨?_,?_⟩
   ·rw[Array.getElem?_setIfInBounds_ne (by omega),Array.getElem?_setIfInBounds_self_of_lt (by omega)]
   ·rw[Array.getElem?_setIfInBounds_self_of_lt (by simp; omega)]
  ·rw[if_neg e]
   refine⟨?_,?_⟩
   ·rw[Array.getElem?_setIfInBounds_ne (by omega),Array.getElem?_setIfInBounds_ne (by omega)]; exact k1
   ·rw[Array.getElem?_setIfInBounds_ne (by omega),Array.getElem?_setIfInBounds_ne (by omega)]; exact k2
theorem KOwn.congr {w:World} {base g n:Nat} {F G:Nat→ByteArray×ByteArray} (h:KOwn w base g n F) (e:∀ j,j < n→F j=G j):KOwn w base g n G:=by
 obtain⟨h1,cur,h2,h3,h4⟩:=h
 exact⟨h1,cur,h2,h3,fun j hj=>by rw [← e j hj]; exact h4 j hj⟩
def KSL (w:World) (base:Nat) (a:Option Addr) (n:Nat) (F:Nat→ByteArray×ByteArray):Prop:=n=0∨∃ g,a=some ⟨g,0,none⟩∧KOwn w base g n F
theorem KSL.came {w:World} {base:Nat} {a:Option Addr} {n:Nat} {F:Nat→ByteArray×ByteArray} (h:KSL w base a n F):KCame w a n F:=by
 rcases h with h | ⟨g,rfl,h⟩
 ·exact .inl h
 ·exact h.came
theorem KSL.called {w w':World} {base:Nat} {a:Option Addr} {n:Nat} {F:Nat→ByteArray×ByteArray} (h:KSL w base a n F) (hb:Below w.heap.size w w'):KSL w' base a n F:=by
 rcases h with h | ⟨g,rfl,h⟩
 ·exact .inl h
 ·exact .inr ⟨g,rfl,h.called hb⟩
theorem ksl_of_own {w:World} {S n:Nat} {v:Value} {L:List (ByteArray×ByteArray)} (h:w.ownsRow S 93 2 v n (kcells L)) (hn:n=L.length):∃ a c,v=.slice a L.length c∧KSL w S a L.length (fun j=>L.getD j (ByteArray.empty,ByteArray.empty)):=by
 subst hn
 rcases h.2 with ⟨rfl,h0⟩ | ⟨g,cap,cur,rfl,hb,hg,hc,hm,hs,ht⟩
 ·exact⟨none,0,by rw [h0],.inl h0⟩
 ·refine⟨_,cap,rfl,.inr ⟨g,rfl,hb,cur,hg,by omega,fun j hj=>?_⟩⟩
  have k1:=h.cellAt (j * 2) (by omega)
  have k2:=h.cellAt (j * 2+1) (by omega)
  rw[cell_of_block hg] at k1 k2
  rw[k1,k2]
  exact⟨dcells_get0 L j hj,dcells_get1 L j hj⟩
theorem eqChunk_same (x y:ByteArray) (W:World):Calls Tryz.prog 80 #[.agg #[.string x,.string y],.agg #[.string x,.string y]] W fun e w'=>e=.returned (.bool true)∧∃ k os',w'=grow (W.drewN k) os':=by
 go_enter Tryz.func80,Tryz.ntmps80
 go_wp2_with fail
 go_ret
 exact⟨rfl,0,_,by rw [alloc_eq_grow,alloc_eq_grow,grow_grow]; rfl⟩
set_option maxHeartbeats 800000 in
theorem eqChunkS_same (a b:Option Addr) (n c1 c2:Nat) (F:Nat→ByteArray×ByteArray) (w:World) (ha:KCame w a n F) (hb:KCame w b n F) (hn:n≤1048576):
  Calls Tryz.prog 45 #[.slice a n c1,.slice b n c2] w fun e w'=>e=.returned (.bool true)∧Below w.heap.size w w':=by
 have mixed:Tryz.prog.follows .mixedOrders=true:=by kernel_rfl
 have HA:=hid_of ha
 have HB:=hid_of hb
 clear ha hb
 go_enter Tryz.func45,Tryz.ntmps45
 go_wp2_with fail
 go_loopw [5] (fun i w'=>∃ (j:Nat),j≤n∧i=.int .i64 j∧Hid (Below w.heap.size w w')) (fun i _=>n - (intOf i).toNat)
 case atStart=>exact⟨0,Nat.zero_le _,rfl,Below.refl _ _⟩
 case round=>
  obtain⟨j,hj,rfl,hBj⟩:=hrel
  by_cases hlt:j < n
  ·rcases HA.out with h0 | ⟨g,off,rfl,hg,hc⟩
   ·omega
   ·rcases HB.out with h0 | ⟨g',off',rfl,hg',hc'⟩
    ·omega
    ·have hbg:∀ n' os,Below w.heap.size w (grow (wr.drewN n') os):=fun n' os=>by
      refine hBj.out.trans ⟨rfl,rfl,rfl,?_,fun k hk=>heap_grow_old (wr.drewN n') os (by show k < wr.heap.size; have:=hBj.out.size; omega)⟩
      rw[size_grow]
      show wr.heap.size≤wr.heap.size+os.size
      omega
     have k0:=fun n' os=>((hbg n' os).cell (p:=⟨g,off+j * 2,none⟩) hg).trans (hc j hlt).1
     have k1:=fun n' os=>((hbg n' os).cell (p:=⟨g,off+j * 2+1,none⟩) hg).trans (hc j hlt).2
     have k2:=fun n' os=>((hbg n' os).cell (p:=⟨g',off'+j * 2,none⟩) hg').trans (hc' j hlt).1
     have k3:=fun n' os=>((hbg n' os).cell (p:=⟨g',off'+j * 2+1,none⟩) hg').trans (hc' j hlt).2
     have HBG:=hid_of hbg
     have hcb:=fun (n':Nat) (os:Array Obj)=>eqChunk_same (F j).1 (F j).2 (grow (wr.drewN n') os)
     generalize (F j).1=x at k0 k2 hcb
     generalize (F j).2=y at k1 k3 hcb
     clear hc hc' hbg
     go_wp2_with fail
     go_quiet_grown (refine Calls.grown_of (hcb _ _))
     have HN:=hid_of (HBG.out nq osq)
     clear k0 k1 k2 k3 hcb HBG
     generalize grow (wr.drewN nq) osq=w2 at HN
     go_wp2_with fail
     go_roundw
     case rel=>exact⟨j+1,by omega,by go_num,HN⟩
     case measure=>simp [intOf]; omega
  ·go_wp2_with fail
   go_ret
   exact⟨rfl,hBj.out⟩
theorem KOwn.grown {w w':World} {base g n:Nat} {F:Nat→ByteArray×ByteArray} {row:Option Nat} (h:KOwn w base g n F) (hg:w.grownBy w' row) (hne:row≠some g):KOwn w' base g n F:=h.keep (hg.block g h.lt (Ne.symm hne))
end
end Go.Proofs.YtkpbfmdnjnohlaaGreat
