/-
  Texts of the proof, put together.
-/
import Derived.Test.YtkpbfmdnjnohlaaGreatTk01
import Derived.WalkLawsBesides
import Derived.Shelf.SlSortCmp.QuietGrown
import Derived.BigQuiet
namespace Go.Proofs.YtkpbfmdnjnohlaaGreat
section
open Go.RowKit Go.Joins Go.Sort
def KCame (w:World) (a:Option Addr) (n:Nat) (F:Nat→ByteArray×ByteArray):Prop:=
 n=0∨∃ g off,a=some ⟨g,off,none⟩∧g < w.heap.size∧∀ j,j < n→w.cell? ⟨g,off+j * 2,none⟩=some (.string (F j).1)∧w.cell? ⟨g,off+j * 2+1,none⟩=some (.string (F j).2)
theorem KCame.called {w w':World} {a:Option Addr} {n:Nat} {F:Nat→ByteArray×ByteArray} (h:KCame w a n F) (hb:Below w.heap.size w w'):KCame w' a n F:=by
 rcases h with h | ⟨g,off,ha,hg,hc⟩
 ·exact .inl h
 ·exact .inr ⟨g,off,ha,Nat.lt_of_lt_of_le hg hb.size,fun j hj=>⟨(hb.cell (p:=⟨g,off+j * 2,none⟩) hg).trans (hc j hj).1,(hb.cell (p:=⟨g,off+j * 2+1,none⟩) hg).trans (hc j hj).2⟩⟩
theorem KCame.grown {w w':World} {a:Option Addr} {n B:Nat} {F:Nat→ByteArray×ByteArray} {row:Option Nat} (h:KCame w a n F) (hB:∀ g off,a=some ⟨g,off,none⟩→g < B) (hr:∀ k,row=some k→B≤k) (hg:w.grownBy w' row):KCame w' a n F:=by
 rcases h with h | ⟨g,off,ha,hlt,hc⟩
 ·exact .inl h
 ·have hne:some g≠row:=fun e=>by have h1:=hB g off ha; have h2:=hr g e.symm; omega
  have hb:=hg.block g hlt hne
  exact .inr ⟨g,off,ha,Nat.lt_of_lt_of_le hlt hg.size,fun j hj=>⟨(World.cell?_of_block (w:=w) hb).trans (hc j hj).1,(World.cell?_of_block (w:=w) hb).trans (hc j hj).2⟩⟩
def KOwn (w:World) (base g n:Nat) (F:Nat→ByteArray×ByteArray):Prop:=base≤g∧∃ cur,w.heap[g]?=some (.cells cur 93 (0,0))∧n * 2≤cur.size∧∀ j,j < n→cur[j * 2]?=some (.string (F j).1)∧cur[j * 2+1]?=some (.string (F j).2)
theorem KOwn.lt {w:World} {base g n:Nat} {F:Nat→ByteArray×ByteArray} (h:KOwn w base g n F):g < w.heap.size:=by
 obtain⟨_,cur,h2,_⟩:=h
 exact block_lt h2
theorem KOwn.keep {w w':World} {base g n:Nat} {F:Nat→ByteArray×ByteArray} (h:KOwn w base g n F) (hk:w'.heap[g]?=w.heap[g]?):KOwn w' base g n F:=by
 obtain⟨h1,cur,h2,h3⟩:=h
 exact⟨h1,cur,hk.trans h2,h3⟩
theorem KOwn.called {w w':World} {base g n:Nat} {F:Nat→ByteArray×ByteArray} (h:KOwn w base g n F) (hb:Below w.heap.size w w'):KOwn w' base g n F:=h.keep (hb.block g h.lt)
theorem KOwn.came {w:World} {base g n:Nat} {F:Nat→ByteArray×ByteArray} (h:KOwn w base g n F):KCame w (some ⟨g,0,none⟩) n F:=by
 refine .inr ⟨g,0,rfl,h.lt,fun j hj=>?_⟩
 obtain⟨_,cur,h2,h3,h4⟩:=h
 rw[Nat.zero_add,cell_of_block h2,cell_of_block h2]
 exact h4 j hj
theorem KOwn.free {w:World} {base g n:Nat} {F:Nat→ByteArray×ByteArray} (h:KOwn w base g n F) (k:Nat):w.frozen? ⟨g,k,none⟩=false:=by
 obtain⟨_,cur,h2,_⟩:=h
 simp[World.frozen?,h2]
def updK (F:Nat→ByteArray×ByteArray) (j:Nat) (x:ByteArray×ByteArray):Nat→ByteArray×ByteArray:=fun i=>if i=j then x else F i
theorem KOwn.set {w:World} {base g n:Nat} {F:Nat→ByteArray×ByteArray} (h:KOwn w base g n F) (j:Nat) (hj:j < n) (x y:ByteArray):KOwn ((w.setCell ⟨g,j * 2,none⟩ (.string x)).setCell ⟨g,j * 2+1,none⟩ (.string y)) base g n (updK F j (x,y)):=by
 obtain⟨h1,cur,h2,h3,h4⟩:=h
 refine⟨h1,(cur.setIfInBounds (j * 2) (.string x)).setIfInBounds (j * 2+1) (.string y),?_,by simpa using h3,fun i hi=>?_⟩
 ·simp[World.setCell,Array.getElem?_modify,h2]
 ·obtain⟨k1,k2⟩:=h4 i hi
  unfold updK
  by_cases e:i=j
  ·subst e
   rw[if_pos rfl]
   refine⟨?_,?_⟩
   ·rw[Array.getElem?_setIfInBounds_ne (by omega),Array.getElem?_setIfInBounds_self_of_lt (by omega)]
   ·rw[Array.getElem?_setIfInBounds_self_of_lt (by simp; omega)]
  ·rw[if_neg e]
   refine⟨?_,?_⟩
   ·rw[Array.getElem?_setIfInBounds_ne (by omega),Array.getElem?_setIfInBounds_ne (by omega)]; exact k1
   ·rw[Array.getElem?_setIfInBounds_ne (by omega),Array.getElem?_setIfInBounds_ne (by omega)]; exact k2
theorem KOwn.congr {w:World} {base g n:Nat} {F G:Nat→ByteArray×ByteArray} (h:KOwn w base g n F) (e:∀ j,j < n→F j=G j):KOwn w base g n G:=by
 obtain⟨h1,cur,h2,h3,h4⟩:=h
 exact⟨h1,cur,h2,h3,fun j hj=>by rw [← e j hj]; exact h4 j hj⟩
def KSL (w:World) (base:Nat) (a:Option Addr) (n:Nat) (F:Nat→ByteArray×ByteArray):Prop:=n=0∨∃ g,a=some ⟨g,0,none⟩∧KOwn w base g n F
theorem KSL.came {w:World} {base:Nat} {a:Option Addr} {n:Nat} {F:Nat→ByteArray×ByteArray} (h:KSL w base a n F):KCame w a n F:=by
 rcases h with h | ⟨g,rfl,h⟩
 ·exact .inl h
 ·exact h.came
theorem KSL.called {w w':World} {base:Nat} {a:Option Addr} {n:Nat} {F:Nat→ByteArray×ByteArray} (h:KSL w base a n F) (hb:Below w.heap.size w w'):KSL w' base a n F:=by
 rcases h with h | ⟨g,rfl,h⟩
 ·exact .inl h
 ·exact .inr ⟨g,rfl,h.called hb⟩
theorem ksl_of_own {w:World} {S n:Nat} {v:Value} {L:List (ByteArray×ByteArray)} (h:w.ownsRow S 93 2 v n (kcells L)) (hn:n=L.length):∃ a c,v=.slice a L.length c∧KSL w S a L.length (fun j=>L.getD j (ByteArray.empty,ByteArray.empty)):=by
 subst hn
 rcases h.2 with ⟨rfl,h0⟩ | ⟨g,cap,cur,rfl,hb,hg,hc,hm,hs,ht⟩
 ·exact⟨none,0,by rw [h0],.inl h0⟩
 ·refine⟨_,cap,rfl,.inr ⟨g,rfl,hb,cur,hg,by omega,fun j hj=>?_⟩⟩
  have k1:=h.cellAt (j * 2) (by omega)
  have k2:=h.cellAt (j * 2+1) (by omega)
  rw[cell_of_block hg] at k1 k2
  rw[k1,k2]
  exact⟨dcells_get0 L j hj,dcells_get1 L j hj⟩
theorem eqChunk_same (x y:ByteArray) (W:World):Calls Tryz.prog 80 #[.agg #[.string x,.string y],.agg #[.string x,.string y]] W fun e w'=>e=.returned (.bool true)∧∃ k os',w'=grow (W.drewN k) os':=by
 go_enter Tryz.func80,Tryz.ntmps80
 go_wp2_with fail
 go_ret
 exact⟨rfl,0,_,by rw [alloc_eq_grow,alloc_eq_grow,grow_grow]; rfl⟩
set_option maxHeartbeats 800000 in
theorem eqChunkS_same (a b:Option Addr) (n c1 c2:Nat) (F:Nat→ByteArray×ByteArray) (w:World) (ha:KCame w a n F) (hb:KCame w b n F) (hn:n≤1048576):
  Calls Tryz.prog 45 #[.slice a n c1,.slice b n c2] w fun e w'=>e=.returned (.bool true)∧Below w.heap.size w w':=by
 have mixed:Tryz.prog.follows .mixedOrders=true:=by kernel_rfl
 have HA:=hid_of ha
 have HB:=hid_of hb
 clear ha hb
 go_enter Tryz.func45,Tryz.ntmps45
 go_wp2_with fail
 go_loopw [5] (fun i w'=>∃ (j:Nat),j≤n∧i=.int .i64 j∧Hid (Below w.heap.size w w')) (fun i _=>n - (intOf i).toNat)
 case atStart=>exact⟨0,Nat.zero_le _,rfl,Below.refl _ _⟩
 case round=>
  obtain⟨j,hj,rfl,hBj⟩:=hrel
  by_cases hlt:j < n
  ·rcases HA.out with h0 | ⟨g,off,rfl,hg,hc⟩
   ·omega
   ·rcases HB.out with h0 | ⟨g',off',rfl,hg',hc'⟩
    ·omega
    ·have hbg:∀ n' os,Below w.heap.size w (grow (wr.drewN n') os):=fun n' os=>by
      refine hBj.out.trans ⟨rfl,rfl,rfl,?_,fun k hk=>heap_grow_old (wr.drewN n') os (by show k < wr.heap.size; have:=hBj.out.size; omega)⟩
      rw[size_grow]
      show wr.heap.size≤wr.heap.size+os.size
      omega
     have k0:=fun n' os=>((hbg n' os).cell (p:=⟨g,off+j * 2,none⟩) hg).trans (hc j hlt).1
     have k1:=fun n' os=>((hbg n' os).cell (p:=⟨g,off+j * 2+1,none⟩) hg).trans (hc j hlt).2
     have k2:=fun n' os=>((hbg n' os).cell (p:=⟨g',off'+j * 2,none⟩) hg').trans (hc' j hlt).1
     have k3:=fun n' os=>((hbg n' os).cell (p:=⟨g',off'+j * 2+1,none⟩) hg').trans (hc' j hlt).2
     have HBG:=hid_of hbg
     have hcb:=fun (n':Nat) (os:Array Obj)=>eqChunk_same (F j).1 (F j).2 (grow (wr.drewN n') os)
     generalize (F j).1=x at k0 k2 hcb
     generalize (F j).2=y at k1 k3 hcb
     clear hc hc' hbg
     go_wp2_with fail
     go_quiet_grown (refine Calls.grown_of (hcb _ _))
     have HN:=hid_of (HBG.out nq osq)
     clear k0 k1 k2 k3 hcb HBG
     generalize grow (wr.drewN nq) osq=w2 at HN
     go_wp2_with fail
     go_roundw
     case rel=>exact⟨j+1,by omega,by go_num,HN⟩
     case measure=>simp [intOf]; omega
  ·go_wp2_with fail
   go_ret
   exact⟨rfl,hBj.out⟩
theorem KOwn.grown {w w':World} {base g n:Nat} {F:Nat→ByteArray×ByteArray} {row:Option Nat} (h:KOwn w base g n F) (hg:w.grownBy w' row) (hne:row≠some g):KOwn w' base g n F:=h.keep (hg.block g h.lt (Ne.symm hne))
end
section
open Go.RowKit Go.Joins HeadMath
theorem RgbCame.grown {w w':World} {a:Option Addr} {n B:Nat} {F:Nat→Rgb3} {row:Option Nat} (h:RgbCame w a n F) (hB:∀ g off,a=some ⟨g,off,none⟩→g < B) (hr:∀ k,row=some k→B≤k) (hg:w.grownBy w' row):RgbCame w' a n F:=by
 rcases h with h | ⟨g,off,ha,hlt,hc⟩
 ·exact .inl h
 ·have hne:some g≠row:=fun e=>by have h1:=hB g off ha; have h2:=hr g e.symm; omega
  have hb:=hg.block g hlt hne
  exact .inr ⟨g,off,ha,Nat.lt_of_lt_of_le hlt hg.size,fun j hj=>⟨(World.cell?_of_block (w:=w) hb).trans (hc j hj).1,(World.cell?_of_block (w:=w) hb).trans (hc j hj).2.1,(World.cell?_of_block (w:=w) hb).trans (hc j hj).2.2⟩⟩
theorem RgbOwn.free {w:World} {base g n:Nat} {F:Nat→Rgb3} (h:RgbOwn w base g n F) (k:Nat):w.frozen? ⟨g,k,none⟩=false:=by
 obtain⟨_,cur,h2,_⟩:=h
 simp[World.frozen?,h2]
def rgbUpdT (F:Nat→Rgb3) (j:Nat) (t:Rgb3):Nat→Rgb3:=fun i=>if i=j then t else F i
theorem RgbOwn.set {w:World} {base g n:Nat} {F:Nat→Rgb3} (h:RgbOwn w base g n F) (j:Nat) (hj:j < n) (x y z:Int):RgbOwn (((w.setCell ⟨g,j * 3,none⟩ (.int .i64 x)).setCell ⟨g,j * 3+1,none⟩ (.int .i64 y)).setCell ⟨g,j * 3+2,none⟩ (.int .i64 z)) base g n (rgbUpdT F j (x,y,z)):=by
 obtain⟨h1,cur,h2,h3,h4⟩:=h
 refine⟨h1,((cur.setIfInBounds (j * 3) (.int .i64 x)).setIfInBounds (j * 3+1) (.int .i64 y)).setIfInBounds (j * 3+2) (.int .i64 z),?_,by simpa using h3,fun i hi=>?_⟩
 ·simp[World.setCell,Array.getElem?_modify,h2]
 ·obtain⟨k1,k2,k3⟩:=h4 i hi
  unfold rgbUpdT
  by_cases e:i=j
  ·subst e
   rw[if_pos rfl]
   refine⟨?_,?_,?_⟩
   ·rw[Array.getElem?_setIfInBounds_ne (by omega),Array.getElem?_setIfInBounds_ne (by omega),Array.getElem?_setIfInBounds_self_of_lt (by omega)]
   ·rw[Array.getElem?_setIfInBounds_ne (by omega),Array.getElem?_setIfInBounds_self_of_lt (by simp; omega)]
   ·rw[Array.getElem?_setIfInBounds_self_of_lt (by simp; omega)]
  ·rw[if_neg e]
   refine⟨?_,?_,?_⟩
   ·rw[Array.getElem?_setIfInBounds_ne (by omega),Array.getElem?_setIfInBounds_ne (by omega),Array.getElem?_setIfInBounds_ne (by omega)]; exact k1
   ·rw[Array.getElem?_setIfInBounds_ne (by omega),Array.getElem?_setIfInBounds_ne (by omega),Array.getElem?_setIfInBounds_ne (by omega)]; exact k2
   ·rw[Array.getElem?_setIfInBounds_ne (by omega),Array.getElem?_setIfInBounds_ne (by omega),Array.getElem?_setIfInBounds_ne (by omega)]; exact k3
theorem RgbOwn.congr {w:World} {base g n:Nat} {F G:Nat→Rgb3} (h:RgbOwn w base g n F) (e:∀ j,j < n→F j=G j):RgbOwn w base g n G:=by
 obtain⟨h1,cur,h2,h3,h4⟩:=h
 exact⟨h1,cur,h2,h3,fun j hj=>by rw [← e j hj]; exact h4 j hj⟩
theorem RgbOwn.grown {w w':World} {base g n:Nat} {F:Nat→Rgb3} {row:Option Nat} (h:RgbOwn w base g n F) (hg:w.grownBy w' row) (hne:row≠some g):RgbOwn w' base g n F:=h.keep (hg.block g h.lt (Ne.symm hne))
def RgbSL (w:World) (base:Nat) (a:Option Addr) (n:Nat) (F:Nat→Rgb3):Prop:=n=0∨∃ g,a=some ⟨g,0,none⟩∧RgbOwn w base g n F
theorem RgbSL.came {w:World} {base:Nat} {a:Option Addr} {n:Nat} {F:Nat→Rgb3} (h:RgbSL w base a n F):RgbCame w a n F:=by
 rcases h with h | ⟨g,rfl,h⟩
 ·exact .inl h
 ·exact h.came
theorem RgbSL.called {w w':World} {base:Nat} {a:Option Addr} {n:Nat} {F:Nat→Rgb3} (h:RgbSL w base a n F) (hb:Below w.heap.size w w'):RgbSL w' base a n F:=by
 rcases h with h | ⟨g,rfl,h⟩
 ·exact .inl h
 ·exact .inr ⟨g,rfl,h.called hb⟩
def rgbMarkedT (k:Int) (j:Nat):Rgb3:=(k+3 * j,k+3 * j+1,k+3 * j+2)
set_option maxHeartbeats 800000 in
theorem heldRgbS_same (a:Option Addr) (n c:Nat) (k:Int) (w:World) (ha:RgbCame w a n (rgbMarkedT k)) (hn:n≤1048576) (h0:0≤k) (h1:k≤10000000):
  Calls Tryz.prog 50 #[.slice a n c,.int .i64 k] w fun e w'=>e=.returned (.int .i64 (k+3 * n))∧w'=w:=by
 have HA:=hid_of ha
 clear ha
 go_enter Tryz.func50,Tryz.ntmps50
 go_wp2_with fail
 go_loop [1,5] (fun z i=>∃ (j:Nat),j≤n∧i=.int .i64 j∧z=.int .i64 (k+3 * j)) (fun _ i=>n - (intOf i).toNat)
 case atStart=>exact⟨0,Nat.zero_le _,rfl,by simp⟩
 case round=>
  obtain⟨j,hj,rfl,rfl⟩:=hrel
  by_cases hlt:j < n
  ·rcases HA.out with q | ⟨g,off,rfl,hg,hc⟩
   ·omega
   ·obtain⟨c0,c1,c2⟩:=hc j hlt
    have e0:(rgbMarkedT k j).1=k+3 * j:=rfl
    have e1:(rgbMarkedT k j).2.1=k+3 * j+1:=rfl
    have e2:(rgbMarkedT k j).2.2=k+3 * j+1+1:=by
     show k+3 * (j:Int)+2=_
     omega
    rw[e0] at c0
    rw[e1] at c1
    rw[e2] at c2
    clear hc e0 e1 e2
    go_wp2_with fail
    go_round
    case rel=>exact⟨j+1,by omega,by go_num,by first | go_num | (congr 1; omega)⟩
    case measure=>simp [intOf]; omega
  ·obtain rfl:j=n:=by omega
   go_wp2_with fail
   go_ret
   exact⟨rfl,rfl⟩
def RgbMarkSt (w w':World) (base g n:Nat) (F:Nat→Rgb3) (k:Int) (j:Nat):Prop:=RgbOwn w' base g n (fun i=>if i < j then rgbMarkedT k i else F i)∧w.grownBy w' (some g)
theorem rgbTmark_next {w w':World} {base g n:Nat} {F:Nat→Rgb3} {k:Int} {j:Nat} (h:RgbMarkSt w w' base g n F k j) (hj:j < n):RgbMarkSt w (((w'.setCell ⟨g,j * 3,none⟩ (.int .i64 (k+3 * j))).setCell ⟨g,j * 3+1,none⟩ (.int .i64 (k+3 * j+1))).setCell ⟨g,j * 3+2,none⟩ (.int .i64 (k+3 * j+1+1))) base g n F k (j+1):=by
 obtain⟨h1,h2⟩:=h
 refine⟨(h1.set j hj _ _ _).congr (fun i _=>?_),⟨h2.os,h2.tape,h2.output,by simpa using h2.size,fun b hb hne=>?_⟩⟩
 ·unfold rgbUpdT
  by_cases e:i=j
  ·rw[if_pos e,if_pos (by omega),e]
   show (k+3 * (j:Int),k+3 * (j:Int)+1,k+3 * (j:Int)+1+1)=(k+3 * (j:Int),k+3 * (j:Int)+1,k+3 * (j:Int)+2)
   rw[show k+3 * (j:Int)+1+1=k+3 * (j:Int)+2 by omega]
  ·rw[if_neg e]
   show (if i < j then rgbMarkedT k i else F i)=_
   by_cases q:i < j
   ·rw[if_pos q,if_pos (by omega)]
   ·rw[if_neg q,if_neg (by omega)]
 ·have hbg:b≠g:=fun e=>hne (by rw [e])
  rw[Below.heap_setCell _ _ _ _ hbg,Below.heap_setCell _ _ _ _ hbg,Below.heap_setCell _ _ _ _ hbg]
  exact h2.block b hb hne
set_option maxHeartbeats 800000 in
theorem markRgbS_own (base g n c:Nat) (F:Nat→Rgb3) (k:Int) (w:World) (ha:RgbOwn w base g n F) (hn:n≤1048576) (h0:0≤k) (h1:k≤10000000):
  Calls Tryz.prog 46 #[.slice (some ⟨g,0,none⟩) n c,.int .i64 k] w fun e w'=>e=.returned (.int .i64 (k+3 * n))∧RgbOwn w' base g n (rgbMarkedT k)∧w.grownBy w' (some g):=by
 have H0:Hid (RgbMarkSt w w base g n F k 0):=⟨ha.congr (fun i _=>by rw [if_neg (Nat.not_lt_zero i)]),⟨rfl,rfl,rfl,Nat.le_refl _,fun _ _ _=>rfl⟩⟩
 clear ha
 go_enter Tryz.func46,Tryz.ntmps46
 go_wp2_with fail
 go_loopw [1,5] (fun z i w'=>∃ (j:Nat),j≤n∧i=.int .i64 j∧z=.int .i64 (k+3 * j)∧Hid (RgbMarkSt w w' base g n F k j)) (fun _ i _=>n - (intOf i).toNat)
 case atStart=>exact⟨0,Nat.zero_le _,rfl,by simp,H0⟩
 case round=>
  clear H0
  obtain⟨j,hj,rfl,rfl,hS⟩:=hrel
  by_cases hlt:j < n
  ·rcases hS.out.1.came with q | ⟨g',off,e,hg,hc⟩
   ·omega
   ·cases e
    obtain⟨c0,c1,c2⟩:=hc j hlt
    rw[Nat.zero_add] at c0 c1 c2
    have fz:=hS.out.1.free
    have HS1:=hid_of (rgbTmark_next hS.out hlt)
    generalize (if j < j then rgbMarkedT k j else F j)=x at c0 c1 c2
    clear hc
    go_wp2_with fail
    go_roundw
    case rel=>exact⟨j+1,by omega,by go_num,by first | go_num | (congr 1; omega),HS1⟩
    case measure=>simp [intOf]; omega
  ·obtain rfl:j=n:=by omega
   have HZ:Hid (RgbOwn wr base g j (rgbMarkedT k)∧w.grownBy wr (some g)):=⟨hS.out.1.congr (fun i hi=>by rw [if_pos hi]),hS.out.2⟩
   go_wp2_with fail
   go_ret
   exact⟨rfl,HZ.out⟩
theorem markRgbS_none (a:Option Addr) (c:Nat) (k:Int) (w:World):Calls Tryz.prog 46 #[.slice a 0 c,.int .i64 k] w fun e w'=>e=.returned (.int .i64 k)∧w'=w:=by
 go_enter Tryz.func46,Tryz.ntmps46
 go_wp2_with fail
 go_loop [1,5] (fun z i=>i=.int .i64 0∧z=.int .i64 k) (fun _ _=>0)
 case atStart=>exact⟨rfl,rfl⟩
 case round=>
  obtain⟨rfl,rfl⟩:=hrel
  go_wp2_with fail
  go_ret
  exact⟨rfl,rfl⟩
end
section
namespace PutMath
open OutMath
theorem p2_8 {r:Nat} (h:r < 8):p2 r≤128:=by
 have h1:=p2_le (show r≤7 by omega)
 have h2:p2 7=128:=by decide +kernel
 omega
end PutMath
end
section
namespace RastMath
open OutMath PutMath
def hb (g:Nat→Int):Nat→Int
 | 0=>0
 | k+1=>2 * hb g k+g k
end RastMath
end
section
open Go.RowKit OutMath PutMath RastMath
def Fit12 (f:Nat→Int) (n d:Nat):Prop:=∀ i,i < n→0≤f i∧f i < p2 d
theorem Fit12.next {f:Nat→Int} {n d:Nat} (h:Fit12 f n d) (h0:0≤f n) (h1:f n < p2 d):Fit12 f (n+1) d:=fun i hi=>by
 by_cases e:i=n
 ·rw[e]; exact⟨h0,h1⟩
 ·exact h i (by omega)
end
section
open Go.RowKit RastMath
def RasR (x0 x1 x2 x3:Int) (n:Nat) (f:Nat→Int):Prop:=SideR x0∧SideR x1∧DepthR x2 x3∧(n:Int)=x0 * x1 * chan x2∧Fit12 f n x3.toNat
def RasPost (x0 x1 x2 x3:Int) (n:Nat) (f:Nat→Int) (w:World) (e:Ending) (w':World):Prop:=∃ b,e=.returned (.bool b)∧(b=true↔RasR x0 x1 x2 x3 n f)∧Below w.heap.size w w'
theorem ras_no {x0 x1 x2 x3:Int} {n:Nat} {f:Nat→Int} {w w':World} (h:¬ RasR x0 x1 x2 x3 n f) (hb:Below w.heap.size w w'):RasPost x0 x1 x2 x3 n f w (.returned (.bool false)) w':=⟨false,rfl,⟨(fun e=>by cases e),fun k=>absurd k h⟩,hb⟩
theorem ras_yes {x0 x1 x2 x3:Int} {n:Nat} {f:Nat→Int} {w w':World} (h:RasR x0 x1 x2 x3 n f) (hb:Below w.heap.size w w'):RasPost x0 x1 x2 x3 n f w (.returned (.bool true)) w':=⟨true,rfl,⟨fun _=>h,fun _=>rfl⟩,hb⟩
end
section
open Go.RowKit OutMath PutMath BigTextMath RastMath HeadMath
def ClearR (d c table:Int) (n:Nat) (f:Nat→Int):Prop:=1≤n∧((c=0∧n=1∧Fit12 f n d.toNat)∨(c=2∧n=3∧Fit12 f n d.toNat)∨(c=3∧(n:Int)≤table∧Fit12 f n 8))
theorem p2_8:p2 8=256:=by decide +kernel
end
section
open Go.RowKit OutMath PutMath BigTextMath RastMath HeadMath ChunkMath CrcMath
open scoped Classical
structure Pic where
 hw:Int
 hh:Int
 hd:Int
 hc:Int
 lace:Bool
 tn:Nat
 T:Nat→Rgb3
 cn:Nat
 C:Nat→Int
 rw:Int
 rh:Int
 rc:Int
 rd:Int
 sn:Nat
 S:Nat→Int
 kn:Nat
 K:Nat→Chk
def clearN:ByteArray:=⟨#[116,82,78,83]⟩
def KeepR (c:Chk):Prop:=(NameR c.1∧97≤byteAt c.1 0)∧¬ c.1=clearN∧c.2.size≤2600
def KeptR (n:Nat) (K:Nat→Chk):Prop:=n≤32∧∀ i,i < n→KeepR (K i)
def FitsR (c d:Int) (n:Nat) (T:Nat→Rgb3):Prop:=if c=3 then TableR T n∧(n:Int)≤p2 d.toNat else n=0
def ClrR (d c:Int) (tn cn:Nat) (C:Nat→Int):Prop:=cn=0∨ClearR d c (tn:Int) cn C
def InR (c:Int) (tn sn:Nat) (S:Nat→Int):Prop:=c=3→∀ i,i < sn→S i < (tn:Int)
def PngR (p:Pic):Prop:=(HeadR p.hw p.hh p.hd p.hc∧RasR p.rw p.rh p.rc p.rd p.sn p.S∧p.rw=p.hw∧p.rh=p.hh∧p.rc=p.hc∧p.rd=p.hd)∧FitsR p.hc p.hd p.tn p.T∧ClrR p.hd p.hc p.tn p.cn p.C∧InR p.hc p.tn p.sn p.S∧KeptR p.kn p.K
end
section
open Go.RowKit Go.Joins HeadMath
structure PicA where
 ta:Option Addr
 tc:Nat
 ca:Option Addr
 cc:Nat
 sa:Option Addr
 sc:Nat
 ka:Option Addr
 kc:Nat
def pngV (p:Pic) (q:PicA):Value:=.agg #[.int .i64 p.hw,.int .i64 p.hh,.int .i64 p.hd,.int .i64 p.hc,.bool p.lace,.slice q.ta p.tn q.tc,.slice q.ca p.cn q.cc,.int .i64 p.rw,.int .i64 p.rh,.int .i64 p.rc,.int .i64 p.rd,.slice q.sa p.sn q.sc,.slice q.ka p.kn q.kc]
structure PngIn (w:World) (p:Pic) (q:PicA):Prop where
 t:RgbCame w q.ta p.tn p.T
 c:Came w q.ca p.cn p.C
 s:Came w q.sa p.sn p.S
 k:KCame w q.ka p.kn p.K
 capped:p.sn≤q.sc∧q.sc≤maxLen
theorem PngIn.called {w w':World} {p:Pic} {q:PicA} (h:PngIn w p q) (hb:Below w.heap.size w w'):PngIn w' p q:=⟨h.t.called hb,h.c.called hb,h.s.called hb,h.k.called hb,h.capped⟩
structure PngSz (p:Pic):Prop where
 t:p.tn≤1048576
 c:p.cn≤1048576
 s:p.sn≤1048576
 k:p.kn≤1048576
 m:∀ i,i < p.kn→(p.K i).1.size≤1048576∧(p.K i).2.size≤1048576
structure PngOwn (w:World) (base:Nat) (p:Pic) (gt gc gs gk:Nat):Prop where
 t:RgbOwn w base gt p.tn p.T
 c:IOwn w base gc p.cn p.cn p.C
 s:IOwn w base gs p.sn p.sn p.S
 k:KOwn w base gk p.kn p.K
 ne:gt < gc∧gc < gs∧gs < gk
def picA (p:Pic) (gt gc gs gk:Nat):PicA:=⟨some ⟨gt,0,none⟩,p.tn,some ⟨gc,0,none⟩,p.cn,some ⟨gs,0,none⟩,p.sn,some ⟨gk,0,none⟩,p.kn⟩
theorem PngOwn.called {w w':World} {base:Nat} {p:Pic} {gt gc gs gk:Nat} (h:PngOwn w base p gt gc gs gk) (hb:Below w.heap.size w w'):PngOwn w' base p gt gc gs gk:=⟨h.t.called hb,h.c.called hb,h.s.called hb,h.k.called hb,h.ne⟩
theorem PngOwn.lie {w:World} {base:Nat} {p:Pic} {gt gc gs gk:Nat} (h:PngOwn w base p gt gc gs gk) (hz:PngSz p):PngIn w p (picA p gt gc gs gk):=⟨h.t.came,h.c.sl.came,h.s.sl.came,h.k.came,Nat.le_refl _,by have:=hz.s; show p.sn≤maxLen; unfold maxLen; omega⟩
end
section
open Go.RowKit Go.Joins
theorem info_i64:(Tryz.prog.info? 3).map (fun i=>(i.zero,i.size,i.bytes))=some (some (.int .i64 0),1,8):=by kernel_rfl
theorem make_ints (w:World) (n:Nat) (hn:n≤1048576):(Instr.makeSlice 25 (.int .i64 n) (.int .i64 n)).run Tryz.prog w=.ok (.slice (some ⟨w.heap.size,0,none⟩) n n) (w.alloc (.cells (madeCells #[Value.int .i64 0] n) 3)):=by
 obtain⟨i0,hi0,hz0,hz1,hz2⟩:=info_parts info_i64
 have h:=run_make (P:=Tryz.prog) w 25 3 i0 (.int .i64 0) Tryz.underlying25 hi0 hz0 .i64 .i64 n n (by omega) (by omega) (by rw [hz2]; omega) (by omega)
 rw[hz1,Int.toNat_natCast,Nat.mul_one] at h
 exact h
set_option maxHeartbeats 800000 in
theorem toIntS_any (a:Option Addr) (n cap:Nat) (f:Nat→Int) (w:World) (hr:Came w a n f) (hn:n≤1048576):
  Calls Tryz.prog 33 #[.slice a n cap] w fun e w'=>e=.returned (.slice (some ⟨w.heap.size,0,none⟩) n n)∧IOwn w' w.heap.size w.heap.size n n f∧Below w.heap.size w w':=by
 have hm:=make_ints w n hn
 have hO:=IOwn.made (base:=w.heap.size) w n (by unfold maxLen; omega) (Nat.le_refl _)
 have hB:Below w.heap.size w (w.alloc (.cells (madeCells #[Value.int .i64 0] n) 3)):=bstart _ _
 generalize w.alloc (.cells (madeCells #[Value.int .i64 0] n) 3)=w1 at hm hO hB
 have HO:Hid (IOwn w1 w.heap.size w.heap.size n n (fun _=>0)):=hO
 have HB:Hid (Below w.heap.size w w1):=hB
 have HR:Hid (Came w a n f):=hr
 clear hO hr hB
 go_enter Tryz.func33,Tryz.ntmps33
 go_wp2_with fail
 go_loopw [4] (fun i w'=>∃ (j:Nat) (h:Nat→Int),j≤n∧i=.int .i64 j∧Hid (∀ i,i < j→h i=f i)∧Hid (IOwn w' w.heap.size w.heap.size n n h)∧Hid (Below w.heap.size w w')) (fun i _=>n - (intOf i).toNat)
 case atStart=>exact⟨0,_,Nat.zero_le _,rfl,fun i hi=>absurd hi (Nat.not_lt_zero i),HO,HB⟩
 case round=>
  obtain⟨j,h,hj,rfl,hh,hOj,hBj⟩:=hrel
  by_cases hlt:j < n
  ·rcases HR.out with h0 | ⟨g,off,rfl,hg,hc⟩
   ·omega
   ·have c0:wr.cell? ⟨g,off+j,none⟩=some (.int .i64 (f j)):=(hBj.out.cell (p:=⟨g,off+j,none⟩) hg).trans (hc j hlt)
    have c1:=hOj.out.cell j hlt
    have f1:=hOj.out.free j hlt
    have hl:=hOj.out.lt
    have hl2:g < wr.heap.size:=Nat.lt_of_lt_of_le hg hBj.out.size
    have HO1:Hid (IOwn (wr.setCell ⟨w.heap.size,j,none⟩ (.int .i64 (f j))) w.heap.size w.heap.size n n (upd h j (f j))):=hOj.out.set j hlt _
    have HB1:Hid (Below w.heap.size w (wr.setCell ⟨w.heap.size,j,none⟩ (.int .i64 (f j)))):=Below.setCell (p:=⟨w.heap.size,j,none⟩) hBj.out (Nat.le_refl _) _
    have HH:Hid (∀ i,i < j+1→upd h j (f j) i=f i):=by
     intro i hi
     unfold upd
     by_cases e:i=j
     ·rw[if_pos e,e]
     ·rw[if_neg e]; exact hh.out i (by omega)
    clear hc
    go_wp2_with fail
    go_roundw
    case rel=>exact⟨j+1,_,by omega,by go_num,HH,HO1,HB1⟩
    case measure=>simp [intOf]; omega
  ·obtain rfl:j=n:=by omega
   go_wp2_with fail
   go_ret
   exact⟨rfl,hOj.out.congr hh.out,hBj.out⟩
set_option maxHeartbeats 800000 in
theorem eqIntS_same (a b:Option Addr) (n c1 c2:Nat) (f:Nat→Int) (w:World) (ha:Came w a n f) (hb:Came w b n f) (hn:n≤1048576):
  Calls Tryz.prog 43 #[.slice a n c1,.slice b n c2] w fun e w'=>e=.returned (.bool true)∧Below w.heap.size w w':=by
 have HA:Hid (Came w a n f):=ha
 have HB:Hid (Came w b n f):=hb
 clear ha hb
 go_enter Tryz.func43,Tryz.ntmps43
 go_wp2_with fail
 go_loopw [5] (fun i w'=>∃ (j:Nat),j≤n∧i=.int .i64 j∧Hid (Below w.heap.size w w')) (fun i _=>n - (intOf i).toNat)
 case atStart=>exact⟨0,Nat.zero_le _,rfl,Below.refl _ _⟩
 case round=>
  obtain⟨j,hj,rfl,hBj⟩:=hrel
  by_cases hlt:j < n
  ·rcases HA.out with h0 | ⟨g,off,rfl,hg,hc⟩
   ·omega
   ·rcases HB.out with h0 | ⟨g',off',rfl,hg',hc'⟩
    ·omega
    ·have k0:wr.cell? ⟨g,off+j,none⟩=some (.int .i64 (f j)):=(hBj.out.cell (p:=⟨g,off+j,none⟩) hg).trans (hc j hlt)
     have k1:wr.cell? ⟨g',off'+j,none⟩=some (.int .i64 (f j)):=(hBj.out.cell (p:=⟨g',off'+j,none⟩) hg').trans (hc' j hlt)
     have l0:g < wr.heap.size:=Nat.lt_of_lt_of_le hg hBj.out.size
     have l1:g' < wr.heap.size:=Nat.lt_of_lt_of_le hg' hBj.out.size
     clear hc hc'
     go_wp2_with fail
     go_region
     all_goals
      go_wp2_with fail
      go_roundw
      case rel=>exact⟨j+1,by omega,by go_num,hBj.out.drew⟩
      case measure=>simp [intOf]; omega
  ·go_wp2_with fail
   go_ret
   exact⟨rfl,hBj.out⟩
theorem IOwn.came {w:World} {base g n cap:Nat} {f:Nat→Int} (h:IOwn w base g n cap f):Came w (some ⟨g,0,none⟩) n f:=
 .inr ⟨g,0,rfl,h.lt,fun j hj=>by rw [Nat.zero_add]; exact h.cell j hj⟩
end
section
open Go.RowKit Go.Joins
theorem szIntS_any (a:Option Addr) (n cap:Nat) (l:Int) (w:World) (h0:0≤l) (h1:l≤1048576) (hn:n≤maxLen):
  Calls Tryz.prog 24 #[.slice a n cap,.int .i64 l] w fun e w'=>e=.returned (.int .i64 (if (n:Int)≤l then l - n else -1))∧w'=w:=by
 unfold maxLen at hn
 by_cases h:(n:Int)≤l
 ·rw[if_pos h]
  have d:decide (l - (n:Int) < 0)=false:=decide_eq_false (by omega)
  go_enter Tryz.func24,Tryz.ntmps24
  go_wp2_with fail
  go_ret
  exact⟨rfl,rfl⟩
 ·rw[if_neg h]
  have d:decide (l - (n:Int) < 0)=true:=decide_eq_true (by omega)
  go_enter Tryz.func24,Tryz.ntmps24
  go_wp2_with fail
  go_ret
  exact⟨rfl,rfl⟩
theorem szRaster_any (x0 x1 x2 x3:Int) (a:Option Addr) (n cap:Nat) (l:Int) (w:World) (h0:0≤l) (h1:l≤1048576) (hn:n≤maxLen):
  Calls Tryz.prog 25 #[.agg #[.int .i64 x0,.int .i64 x1,.int .i64 x2,.int .i64 x3,.slice a n cap],.int .i64 l] w fun e w'=>e=.returned (.int .i64 (if (n:Int)≤l then l - n else -1))∧Below w.heap.size w w':=by
 have hs:=fun W=>szIntS_any a n cap l W h0 h1 hn
 have hB:=hid_of (bstart w (.cells #[.int .i64 x0,.int .i64 x1,.int .i64 x2,.int .i64 x3,.slice a n cap] 27))
 unfold maxLen at hn
 by_cases h:(n:Int)≤l
 ·rw[if_pos h] at hs ⊢
  have d:decide (l - (n:Int) < 0)=false:=decide_eq_false (by omega)
  go_enter Tryz.func25,Tryz.ntmps25
  go_wp2_with fail
  refine (hs _).mono ?_
  rintro e w1 ⟨rfl,rfl⟩
  go_wp2_with fail
  go_ret
  exact⟨rfl,hB.out⟩
 ·rw[if_neg h] at hs ⊢
  go_enter Tryz.func25,Tryz.ntmps25
  go_wp2_with fail
  refine (hs _).mono ?_
  rintro e w1 ⟨rfl,rfl⟩
  go_wp2_with fail
  go_ret
  exact⟨rfl,hB.out⟩
def RasCopy (x0 x1 x2 x3:Int) (n:Nat) (f:Nat→Int) (w:World) (e:Ending) (w':World):Prop:=∃ g,e=.returned (.agg #[.int .i64 x0,.int .i64 x1,.int .i64 x2,.int .i64 x3,.slice (some ⟨g,0,none⟩) n n])∧IOwn w' w.heap.size g n n f∧Below w.heap.size w w'
set_option maxHeartbeats 1600000 in
theorem toRaster_any (x0 x1 x2 x3:Int) (a:Option Addr) (n cap:Nat) (f:Nat→Int) (w:World) (hC:Came w a n f) (hn:n≤1048576):
  Calls Tryz.prog 34 #[.agg #[.int .i64 x0,.int .i64 x1,.int .i64 x2,.int .i64 x3,.slice a n cap]] w (RasCopy x0 x1 x2 x3 n f w):=by
 have HC:=hid_of hC
 clear hC
 go_enter Tryz.func34,Tryz.ntmps34
 go_wp2_with fail
 have HB0:Hid (Below w.heap.size w (((w.alloc (.cells #[.int .i64 x0,.int .i64 x1,.int .i64 x2,.int .i64 x3,.slice a n cap] 27)).alloc (.cells #[.int .i64 0,.int .i64 0,.int .i64 0,.int .i64 0,.slice none 0 0] 34)).alloc (.cells #[.int .i64 x0,.int .i64 x1,.int .i64 x2,.int .i64 x3,.slice none 0 0] 34))):=bal (bal (bstart _ _) _) _
 have HS0:Hid ((((w.alloc (.cells #[.int .i64 x0,.int .i64 x1,.int .i64 x2,.int .i64 x3,.slice a n cap] 27)).alloc (.cells #[.int .i64 0,.int .i64 0,.int .i64 0,.int .i64 0,.slice none 0 0] 34)).alloc (.cells #[.int .i64 x0,.int .i64 x1,.int .i64 x2,.int .i64 x3,.slice none 0 0] 34)).heap.size=w.heap.size+3):=by
  show _=_
  simp
 have HR1:Hid ((((w.alloc (.cells #[.int .i64 x0,.int .i64 x1,.int .i64 x2,.int .i64 x3,.slice a n cap] 27)).alloc (.cells #[.int .i64 0,.int .i64 0,.int .i64 0,.int .i64 0,.slice none 0 0] 34)).alloc (.cells #[.int .i64 x0,.int .i64 x1,.int .i64 x2,.int .i64 x3,.slice none 0 0] 34)).heap[w.heap.size+1]?=some (.cells #[.int .i64 0,.int .i64 0,.int .i64 0,.int .i64 0,.slice none 0 0] 34 (0,0))):=by
  show (((w.heap.push _).push _).push _)[w.heap.size+1]?=_
  rw[Array.getElem?_push,if_neg (by simp),Array.getElem?_push,if_pos (by simp)]
 have HR2:Hid ((((w.alloc (.cells #[.int .i64 x0,.int .i64 x1,.int .i64 x2,.int .i64 x3,.slice a n cap] 27)).alloc (.cells #[.int .i64 0,.int .i64 0,.int .i64 0,.int .i64 0,.slice none 0 0] 34)).alloc (.cells #[.int .i64 x0,.int .i64 x1,.int .i64 x2,.int .i64 x3,.slice none 0 0] 34)).heap[w.heap.size+1+1]?=some (.cells #[.int .i64 x0,.int .i64 x1,.int .i64 x2,.int .i64 x3,.slice none 0 0] 34 (0,0))):=by
  show (((w.heap.push _).push _).push _)[w.heap.size+1+1]?=_
  rw[Array.getElem?_push,if_pos (by simp)]
 generalize ((w.alloc (.cells #[.int .i64 x0,.int .i64 x1,.int .i64 x2,.int .i64 x3,.slice a n cap] 27)).alloc (.cells #[.int .i64 0,.int .i64 0,.int .i64 0,.int .i64 0,.slice none 0 0] 34)).alloc (.cells #[.int .i64 x0,.int .i64 x1,.int .i64 x2,.int .i64 x3,.slice none 0 0] 34)=W3 at HB0 HS0 HR1 HR2 ⊢
 refine (toIntS_any a n cap f W3 (HC.out.called HB0.out) hn).mono ?_
 rintro e w4 ⟨rfl,hO4,hB4⟩
 have q1:w4.heap[w.heap.size+1]?=some (.cells #[.int .i64 0,.int .i64 0,.int .i64 0,.int .i64 0,.slice none 0 0] 34 (0,0)):=(hB4.block _ (by rw [HS0.out]; omega)).trans HR1.out
 have q2:w4.heap[w.heap.size+1+1]?=some (.cells #[.int .i64 x0,.int .i64 x1,.int .i64 x2,.int .i64 x3,.slice none 0 0] 34 (0,0)):=(hB4.block _ (by rw [HS0.out]; omega)).trans HR2.out
 rw[HS0.out] at hO4 ⊢
 have HO4:=hid_of hO4
 have HB4:=hid_of (bnext HB0.out hB4)
 have c0:w4.cell? ⟨w.heap.size+1+1,0,none⟩=some (.int .i64 x0):=(cell_of_block q2 0).trans rfl
 have c1:w4.cell? ⟨w.heap.size+1+1,1,none⟩=some (.int .i64 x1):=(cell_of_block q2 1).trans rfl
 have c2:w4.cell? ⟨w.heap.size+1+1,2,none⟩=some (.int .i64 x2):=(cell_of_block q2 2).trans rfl
 have c3:w4.cell? ⟨w.heap.size+1+1,3,none⟩=some (.int .i64 x3):=(cell_of_block q2 3).trans rfl
 have c4:w4.cell? ⟨w.heap.size+1+1,4,none⟩=some (.slice none 0 0):=(cell_of_block q2 4).trans rfl
 have b0:w4.cell? ⟨w.heap.size+1,0,none⟩=some (.int .i64 0):=(cell_of_block q1 0).trans rfl
 have b1:w4.cell? ⟨w.heap.size+1,1,none⟩=some (.int .i64 0):=(cell_of_block q1 1).trans rfl
 have b2:w4.cell? ⟨w.heap.size+1,2,none⟩=some (.int .i64 0):=(cell_of_block q1 2).trans rfl
 have b3:w4.cell? ⟨w.heap.size+1,3,none⟩=some (.int .i64 0):=(cell_of_block q1 3).trans rfl
 have b4:w4.cell? ⟨w.heap.size+1,4,none⟩=some (.slice none 0 0):=(cell_of_block q1 4).trans rfl
 have cf:∀ q,w4.frozen? ⟨w.heap.size+1+1,q,none⟩=false:=fun q=>by simp [World.frozen?,q2]
 have bf:∀ q,w4.frozen? ⟨w.heap.size+1,q,none⟩=false:=fun q=>by simp [World.frozen?,q1]
 have l1:=block_lt q1
 have l2:=block_lt q2
 clear q1 q2 hO4 hB4
 go_wp2_with fail
 refine bodyPost_ret (v:=.agg #[.int .i64 x0,.int .i64 x1,.int .i64 x2,.int .i64 x3,.slice (some ⟨w.heap.size+3,0,none⟩) n n]) ?_ rfl ⟨_,rfl,?_,?_⟩
 ·simp[results,Tryz.results34,go_sem, *]
 ·refine (HO4.out.mono (by omega)).keep ?_
  repeat' rw [Below.heap_setCell _ _ _ _ (by first | (simp; done) | (simp; omega))]
 ·repeat' refine Below.setCell ?_ (by first | (simp; done) | (simp; omega)) _
  exact HB4.out
set_option maxHeartbeats 1600000 in
theorem eqRaster_same (x0 x1 x2 x3:Int) (a b:Option Addr) (n c1 c2:Nat) (f:Nat→Int) (w:World) (ha:Came w a n f) (hb:Came w b n f) (hn:n≤1048576):
  Calls Tryz.prog 44 #[.agg #[.int .i64 x0,.int .i64 x1,.int .i64 x2,.int .i64 x3,.slice a n c1],.agg #[.int .i64 x0,.int .i64 x1,.int .i64 x2,.int .i64 x3,.slice b n c2]] w fun e w'=>e=.returned (.bool true)∧Below w.heap.size w w':=by
 have HA:=hid_of ha
 have HB:=hid_of hb
 clear ha hb
 have n0:(x0 != x0)=false:=by simp
 have n1:(x1 != x1)=false:=by simp
 have n2:(x2 != x2)=false:=by simp
 have n3:(x3 != x3)=false:=by simp
 go_enter Tryz.func44,Tryz.ntmps44
 go_wp2_with fail
 have HB0:Hid (Below w.heap.size w ((w.alloc (.cells #[.int .i64 x0,.int .i64 x1,.int .i64 x2,.int .i64 x3,.slice a n c1] 34)).alloc (.cells #[.int .i64 x0,.int .i64 x1,.int .i64 x2,.int .i64 x3,.slice b n c2] 34))):=bal (bstart _ _) _
 refine (eqIntS_same a b n c1 c2 f _ (HA.out.called HB0.out) (HB.out.called HB0.out) hn).mono ?_
 rintro e w1 ⟨rfl,hB1⟩
 have HB1:=hid_of (bnext HB0.out hB1)
 clear hB1
 go_wp2_with fail
 go_ret
 exact⟨rfl,HB1.out⟩
end
end Go.Proofs.YtkpbfmdnjnohlaaGreat
