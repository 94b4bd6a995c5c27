/-
  Texts of the proof, put together.
-/
import Derived.Test.YtkpbfmdnjnohlaaGreatTk02
import Derived.WalkLawsBesides
import Derived.Shelf.SlSortCmp.QuietGrown
namespace Go.Proofs.YtkpbfmdnjnohlaaGreat
section
open Go.RowKit Go.Joins Go.Sort
def KCame (w:World) (a:Option Addr) (n:Nat) (F:Nat→ByteArray×ByteArray):Prop:=
 n=0∨∃ g off,a=some ⟨g,off,none⟩∧g < w.heap.size∧∀ j,j < n→w.cell? ⟨g,off+j * 2,none⟩=some (.string (F j).1)∧w.cell? ⟨g,off+j * 2+1,none⟩=some (.string (F j).2)
theorem KCame.called {w w':World} {a:Option Addr} {n:Nat} {F:Nat→ByteArray×ByteArray} (h:KCame w a n F) (hb:Below w.heap.size w w'):KCame w' a n F:=by
 rcases h with h | ⟨g,off,ha,hg,hc⟩
 ·exact .inl h
 ·exact .inr ⟨g,off,ha,Nat.lt_of_lt_of_le hg hb.size,fun j hj=>⟨(hb.cell (p:=⟨g,off+j * 2,none⟩) hg).trans (hc j hj).1,(hb.cell (p:=⟨g,off+j * 2+1,none⟩) hg).trans (hc j hj).2⟩⟩
theorem KCame.grown {w w':World} {a:Option Addr} {n B:Nat} {F:Nat→ByteArray×ByteArray} {row:Option Nat} (h:KCame w a n F) (hB:∀ g off,a=some ⟨g,off,none⟩→g < B) (hr:∀ k,row=some k→B≤k) (hg:w.grownBy w' row):KCame w' a n F:=by
 rcases h with h | ⟨g,off,ha,hlt,hc⟩
 ·exact .inl h
 ·have hne:some g≠row:=fun e=>by have h1:=hB g off ha; have h2:=hr g e.symm; omega
  have hb:=hg.block g hlt hne
  exact .inr ⟨g,off,ha,Nat.lt_of_lt_of_le hlt hg.size,fun j hj=>⟨(World.cell?_of_block (w:=w) hb).trans (hc j hj).1,(World.cell?_of_block (w:=w) hb).trans (hc j hj).2⟩⟩
def KOwn (w:World) (base g n:Nat) (F:Nat→ByteArray×ByteArray):Prop:=base≤g∧∃ cur,w.heap[g]?=some (.cells cur 93 (0,0))∧n * 2≤cur.size∧∀ j,j < n→cur[j * 2]?=some (.string (F j).1)∧cur[j * 2+1]?=some (.string (F j).2)
theorem KOwn.lt {w:World} {base g n:Nat} {F:Nat→ByteArray×ByteArray} (h:KOwn w base g n F):g < w.heap.size:=by
 obtain⟨_,cur,h2,_⟩:=h
 exact block_lt h2
theorem KOwn.keep {w w':World} {base g n:Nat} {F:Nat→ByteArray×ByteArray} (h:KOwn w base g n F) (hk:w'.heap[g]?=w.heap[g]?):KOwn w' base g n F:=by
 obtain⟨h1,cur,h2,h3⟩:=h
 exact⟨h1,cur,hk.trans h2,h3⟩
theorem KOwn.called {w w':World} {base g n:Nat} {F:Nat→ByteArray×ByteArray} (h:KOwn w base g n F) (hb:Below w.heap.size w w'):KOwn w' base g n F:=h.keep (hb.block g h.lt)
theorem KOwn.came {w:World} {base g n:Nat} {F:Nat→ByteArray×ByteArray} (h:KOwn w base g n F):KCame w (some ⟨g,0,none⟩) n F:=by
 refine .inr ⟨g,0,rfl,h.lt,fun j hj=>?_⟩
 obtain⟨_,cur,h2,h3,h4⟩:=h
 rw[Nat.zero_add,cell_of_block h2,cell_of_block h2]
 exact h4 j hj
theorem KOwn.free {w:World} {base g n:Nat} {F:Nat→ByteArray×ByteArray} (h:KOwn w base g n F) (k:Nat):w.frozen? ⟨g,k,none⟩=false:=by
 obtain⟨_,cur,h2,_⟩:=h
 simp[World.frozen?,h2]
def updK (F:Nat→ByteArray×ByteArray) (j:Nat) (x:ByteArray×ByteArray):Nat→ByteArray×ByteArray:=fun i=>if i=j then x else F i
theorem KOwn.set {w:World} {base g n:Nat} {F:Nat→ByteArray×ByteArray} (h:KOwn w base g n F) (j:Nat) (hj:j < n) (x y:ByteArray):KOwn ((w.setCell ⟨g,j * 2,none⟩ (.string x)).setCell ⟨g,j * 2+1,none⟩ (.string y)) base g n (updK F j (x,y)):=by
 obtain⟨h1,cur,h2,h3,h4⟩:=h
 refine⟨h1,(cur.setIfInBounds (j * 2) (.string x)).setIfInBounds (j * 2+1) (.string y),?_,by simpa using h3,fun i hi=>?_⟩
 ·simp[World.setCell,Array.getElem?_modify,h2]
 ·obtain⟨k1,k2⟩:=h4 i hi
  unfold updK
  by_cases e:i=j
  ·subst e
   rw[if_pos rfl]
   refine⟨?_,?_⟩
   ·rw[Array.getElem?_setIfInBounds_ne (by omega),Array.getElem?_setIfInBounds_self_of_lt (by omega)]
   ·rw[Array.getElem?_setIfInBounds_self_of_lt (by simp; omega)]
  ·rw[if_neg e]
   refine⟨?_,?_⟩
   ·rw[Array.getElem?_setIfInBounds_ne (by omega),Array.getElem?_setIfInBounds_ne (by omega)]; exact k1
   ·rw[Array.getElem?_setIfInBounds_ne (by omega),Array.getElem?_setIfInBounds_ne (by omega)]; exact k2
theorem KOwn.congr {w:World} {base g n:Nat} {F G:Nat→ByteArray×ByteArray} (h:KOwn w base g n F) (e:∀ j,j < n→F j=G j):KOwn w base g n G:=by
 obtain⟨h1,cur,h2,h3,h4⟩:=h
 exact⟨h1,cur,h2,h3,fun j hj=>by rw [← e j hj]; exact h4 j hj⟩
def KSL (w:World) (base:Nat) (a:Option Addr) (n:Nat) (F:Nat→ByteArray×ByteArray):Prop:=n=0∨∃ g,a=some ⟨g,0,none⟩∧KOwn w base g n F
theorem KSL.came {w:World} {base:Nat} {a:Option Addr} {n:Nat} {F:Nat→ByteArray×ByteArray} (h:KSL w base a n F):KCame w a n F:=by
 rcases h with h | ⟨g,rfl,h⟩
 ·exact .inl h
 ·exact h.came
theorem KSL.called {w w':World} {base:Nat} {a:Option Addr} {n:Nat} {F:Nat→ByteArray×ByteArray} (h:KSL w base a n F) (hb:Below w.heap.size w w'):KSL w' base a n F:=by
 rcases h with h | ⟨g,rfl,h⟩
 ·exact .inl h
 ·exact .inr ⟨g,rfl,h.called hb⟩
theorem ksl_of_own {w:World} {S n:Nat} {v:Value} {L:List (ByteArray×ByteArray)} (h:w.ownsRow S 93 2 v n (kcells L)) (hn:n=L.length):∃ a c,v=.slice a L.length c∧KSL w S a L.length (fun j=>L.getD j (ByteArray.empty,ByteArray.empty)):=by
 subst hn
 rcases h.2 with ⟨rfl,h0⟩ | ⟨g,cap,cur,rfl,hb,hg,hc,hm,hs,ht⟩
 ·exact⟨none,0,by rw [h0],.inl h0⟩
 ·refine⟨_,cap,rfl,.inr ⟨g,rfl,hb,cur,hg,by omega,fun j hj=>?_⟩⟩
  have k1:=h.cellAt (j * 2) (by omega)
  have k2:=h.cellAt (j * 2+1) (by omega)
  rw[cell_of_block hg] at k1 k2
  rw[k1,k2]
  exact⟨dcells_get0 L j hj,dcells_get1 L j hj⟩
theorem eqChunk_same (x y:ByteArray) (W:World):Calls Tryz.prog 80 #[.agg #[.string x,.string y],.agg #[.string x,.string y]] W fun e w'=>e=.returned (.bool true)∧∃ k os',w'=grow (W.drewN k) os':=by
 go_enter Tryz.func80,Tryz.ntmps80
 go_wp2_with fail
 go_ret
 exact⟨rfl,0,_,by rw [alloc_eq_grow,alloc_eq_grow,grow_grow]; rfl⟩
set_option maxHeartbeats 800000 in
theorem eqChunkS_same (a b:Option Addr) (n c1 c2:Nat) (F:Nat→ByteArray×ByteArray) (w:World) (ha:KCame w a n F) (hb:KCame w b n F) (hn:n≤1048576):
  Calls Tryz.prog 45 #[.slice a n c1,.slice b n c2] w fun e w'=>e=.returned (.bool true)∧Below w.heap.size w w':=by
 have mixed:Tryz.prog.follows .mixedOrders=true:=by kernel_rfl
 have HA:=hid_of ha
 have HB:=hid_of hb
 clear ha hb
 go_enter Tryz.func45,Tryz.ntmps45
 go_wp2_with fail
 go_loopw [5] (fun i w'=>∃ (j:Nat),j≤n∧i=.int .i64 j∧Hid (Below w.heap.size w w')) (fun i _=>n - (intOf i).toNat)
 case atStart=>exact⟨0,Nat.zero_le _,rfl,Below.refl _ _⟩
 case round=>
  obtain⟨j,hj,rfl,hBj⟩:=hrel
  by_cases hlt:j < n
  ·rcases HA.out with h0 | ⟨g,off,rfl,hg,hc⟩
   ·omega
   ·rcases HB.out with h0 | ⟨g',off',rfl,hg',hc'⟩
    ·omega
    ·have hbg:∀ n' os,Below w.heap.size w (grow (wr.drewN n') os):=fun n' os=>by
      refine hBj.out.trans ⟨rfl,rfl,rfl,?_,fun k hk=>heap_grow_old (wr.drewN n') os (by show k < wr.heap.size; have:=hBj.out.size; omega)⟩
      rw[size_grow]
      show wr.heap.size≤wr.heap.size+os.size
      omega
     have k0:=fun n' os=>((hbg n' os).cell (p:=⟨g,off+j * 2,none⟩) hg).trans (hc j hlt).1
     have k1:=fun n' os=>((hbg n' os).cell (p:=⟨g,off+j * 2+1,none⟩) hg).trans (hc j hlt).2
     have k2:=fun n' os=>((hbg n' os).cell (p:=⟨g',off'+j * 2,none⟩) hg').trans (hc' j hlt).1
     have k3:=fun n' os=>((hbg n' os).cell (p:=⟨g',off'+j * 2+1,none⟩) hg').trans (hc' j hlt).2
     have HBG:=hid_of hbg
     have hcb:=fun (n':Nat) (os:Array Obj)=>eqChunk_same (F j).1 (F j).2 (grow (wr.drewN n') os)
     generalize (F j).1=x at k0 k2 hcb
     generalize (F j).2=y at k1 k3 hcb
     clear hc hc' hbg
     go_wp2_with fail
     go_quiet_grown (refine Calls.grown_of (hcb _ _))
     have HN:=hid_of (HBG.out nq osq)
     clear k0 k1 k2 k3 hcb HBG
     generalize grow (wr.drewN nq) osq=w2 at HN
     go_wp2_with fail
     go_roundw
     case rel=>exact⟨j+1,by omega,by go_num,HN⟩
     case measure=>simp [intOf]; omega
  ·go_wp2_with fail
   go_ret
   exact⟨rfl,hBj.out⟩
theorem KOwn.grown {w w':World} {base g n:Nat} {F:Nat→ByteArray×ByteArray} {row:Option Nat} (h:KOwn w base g n F) (hg:w.grownBy w' row) (hne:row≠some g):KOwn w' base g n F:=h.keep (hg.block g h.lt (Ne.symm hne))
end
section
open Go.RowKit Go.Joins HeadMath
theorem RgbCame.grown {w w':World} {a:Option Addr} {n B:Nat} {F:Nat→Rgb3} {row:Option Nat} (h:RgbCame w a n F) (hB:∀ g off,a=some ⟨g,off,none⟩→g < B) (hr:∀ k,row=some k→B≤k) (hg:w.grownBy w' row):RgbCame w' a n F:=by
 rcases h with h | ⟨g,off,ha,hlt,hc⟩
 ·exact .inl h
 ·have hne:some g≠row:=fun e=>by have h1:=hB g off ha; have h2:=hr g e.symm; omega
  have hb:=hg.block g hlt hne
  exact .inr ⟨g,off,ha,Nat.lt_of_lt_of_le hlt hg.size,fun j hj=>⟨(World.cell?_of_block (w:=w) hb).trans (hc j hj).1,(World.cell?_of_block (w:=w) hb).trans (hc j hj).2.1,(World.cell?_of_block (w:=w) hb).trans (hc j hj).2.2⟩⟩
theorem RgbOwn.free {w:World} {base g n:Nat} {F:Nat→Rgb3} (h:RgbOwn w base g n F) (k:Nat):w.frozen? ⟨g,k,none⟩=false:=by
 obtain⟨_,cur,h2,_⟩:=h
 simp[World.frozen?,h2]
def rgbUpdT (F:Nat→Rgb3) (j:Nat) (t:Rgb3):Nat→Rgb3:=fun i=>if i=j then t else F i
theorem RgbOwn.set {w:World} {base g n:Nat} {F:Nat→Rgb3} (h:RgbOwn w base g n F) (j:Nat) (hj:j < n) (x y z:Int):RgbOwn (((w.setCell ⟨g,j * 3,none⟩ (.int .i64 x)).setCell ⟨g,j * 3+1,none⟩ (.int .i64 y)).setCell ⟨g,j * 3+2,none⟩ (.int .i64 z)) base g n (rgbUpdT F j (x,y,z)):=by
 obtain⟨h1,cur,h2,h3,h4⟩:=h
 refine⟨h1,((cur.setIfInBounds (j * 3) (.int .i64 x)).setIfInBounds (j * 3+1) (.int .i64 y)).setIfInBounds (j * 3+2) (.int .i64 z),?_,by simpa using h3,fun i hi=>?_⟩
 ·simp[World.setCell,Array.getElem?_modify,h2]
 ·obtain⟨k1,k2,k3⟩:=h4 i hi
  unfold rgbUpdT
  by_cases e:i=j
  ·subst e
   rw[if_pos rfl]
   refine⟨?_,?_,?_⟩
   ·rw[Array.getElem?_setIfInBounds_ne (by omega),Array.getElem?_setIfInBounds_ne (by omega),Array.getElem?_setIfInBounds_self_of_lt (by omega)]
   ·rw[Array.getElem?_setIfInBounds_ne (by omega),Array.getElem?_setIfInBounds_self_of_lt (by simp; omega)]
   ·rw[Array.getElem?_setIfInBounds_self_of_lt (by simp; omega)]
  ·rw[if_neg e]
   refine⟨?_,?_,?_⟩
   ·rw[Array.getElem?_setIfInBounds_ne (by omega),Array.getElem?_setIfInBounds_ne (by omega),Array.getElem?_setIfInBounds_ne (by omega)]; exact k1
   ·rw[Array.getElem?_setIfInBounds_ne (by omega),Array.getElem?_setIfInBounds_ne (by omega),Array.getElem?_setIfInBounds_ne (by omega)]; exact k2
   ·rw[Array.getElem?_setIfInBounds_ne (by omega),Array.getElem?_setIfInBounds_ne (by omega),Array.getElem?_setIfInBounds_ne (by omega)]; exact k3
theorem RgbOwn.congr {w:World} {base g n:Nat} {F G:Nat→Rgb3} (h:RgbOwn w base g n F) (e:∀ j,j < n→F j=G j):RgbOwn w base g n G:=by
 obtain⟨h1,cur,h2,h3,h4⟩:=h
 exact⟨h1,cur,h2,h3,fun j hj=>by rw [← e j hj]; exact h4 j hj⟩
theorem RgbOwn.grown {w w':World} {base g n:Nat} {F:Nat→Rgb3} {row:Option Nat} (h:RgbOwn w base g n F) (hg:w.grownBy w' row) (hne:row≠some g):RgbOwn w' base g n F:=h.keep (hg.block g h.lt (Ne.symm hne))
def RgbSL (w:World) (base:Nat) (a:Option Addr) (n:Nat) (F:Nat→Rgb3):Prop:=n=0∨∃ g,a=some ⟨g,0,none⟩∧RgbOwn w base g n F
theorem RgbSL.came {w:World} {base:Nat} {a:Option Addr} {n:Nat} {F:Nat→Rgb3} (h:RgbSL w base a n F):RgbCame w a n F:=by
 rcases h with h | ⟨g,rfl,h⟩
 ·exact .inl h
 ·exact h.came
theorem RgbSL.called {w w':World} {base:Nat} {a:Option Addr} {n:Nat} {F:Nat→Rgb3} (h:RgbSL w base a n F) (hb:Below w.heap.size w w'):RgbSL w' base a n F:=by
 rcases h with h | ⟨g,rfl,h⟩
 ·exact .inl h
 ·exact .inr ⟨g,rfl,h.called hb⟩
def rgbMarkedT (k:Int) (j:Nat):Rgb3:=(k+3 * j,k+3 * j+1,k+3 * j+2)
set_option maxHeartbeats 800000 in
theorem heldRgbS_same (a:Option Addr) (n c:Nat) (k:Int) (w:World) (ha:RgbCame w a n (rgbMarkedT k)) (hn:n≤1048576) (h0:0≤k) (h1:k≤10000000):
  Calls Tryz.prog 50 #[.slice a n c,.int .i64 k] w fun e w'=>e=.returned (.int .i64 (k+3 * n))∧w'=w:=by
 have HA:=hid_of ha
 clear ha
 go_enter Tryz.func50,Tryz.ntmps50
 go_wp2_with fail
 go_loop [1,5] (fun z i=>∃ (j:Nat),j≤n∧i=.int .i64 j∧z=.int .i64 (k+3 * j)) (fun _ i=>n - (intOf i).toNat)
 case atStart=>exact⟨0,Nat.zero_le _,rfl,by simp⟩
 case round=>
  obtain⟨j,hj,rfl,rfl⟩:=hrel
  by_cases hlt:j < n
  ·rcases HA.out with q | ⟨g,off,rfl,hg,hc⟩
   ·omega
   ·obtain⟨c0,c1,c2⟩:=hc j hlt
    have e0:(rgbMarkedT k j).1=k+3 * j:=rfl
    have e1:(rgbMarkedT k j).2.1=k+3 * j+1:=rfl
    have e2:(rgbMarkedT k j).2.2=k+3 * j+1+1:=by
     show k+3 * (j:Int)+2=_
     omega
    rw[e0] at c0
    rw[e1] at c1
    rw[e2] at c2
    clear hc e0 e1 e2
    go_wp2_with fail
    go_round
    case rel=>exact⟨j+1,by omega,by go_num,by first | go_num | (congr 1; omega)⟩
    case measure=>simp [intOf]; omega
  ·obtain rfl:j=n:=by omega
   go_wp2_with fail
   go_ret
   exact⟨rfl,rfl⟩
def RgbMarkSt (w w':World) (base g n:Nat) (F:Nat→Rgb3) (k:Int) (j:Nat):Prop:=RgbOwn w' base g n (fun i=>if i < j then rgbMarkedT k i else F i)∧w.grownBy w' (some g)
theorem rgbTmark_next {w w':World} {base g n:Nat} {F:Nat→Rgb3} {k:Int} {j:Nat} (h:RgbMarkSt w w' base g n F k j) (hj:j < n):RgbMarkSt w (((w'.setCell ⟨g,j * 3,none⟩ (.int .i64 (k+3 * j))).setCell ⟨g,j * 3+1,none⟩ (.int .i64 (k+3 * j+1))).setCell ⟨g,j * 3+2,none⟩ (.int .i64 (k+3 * j+1+1))) base g n F k (j+1):=by
 obtain⟨h1,h2⟩:=h
 refine⟨(h1.set j hj _ _ _).congr (fun i _=>?_),⟨h2.os,h2.tape,h2.output,by simpa using h2.size,fun b hb hne=>?_⟩⟩
 ·unfold rgbUpdT
  by_cases e:i=j
  ·rw[if_pos e,if_pos (by omega),e]
   show (k+3 * (j:Int),k+3 * (j:Int)+1,k+3 * (j:Int)+1+1)=(k+3 * (j:Int),k+3 * (j:Int)+1,k+3 * (j:Int)+2)
   rw[show k+3 * (j:Int)+1+1=k+3 * (j:Int)+2 by omega]
  ·rw[if_neg e]
   show (if i < j then rgbMarkedT k i else F i)=_
   by_cases q:i < j
   ·rw[if_pos q,if_pos (by omega)]
   ·rw[if_neg q,if_neg (by omega)]
 ·have hbg:b≠g:=fun e=>hne (by rw [e])
  rw[Below.heap_setCell _ _ _ _ hbg,Below.heap_setCell _ _ _ _ hbg,Below.heap_setCell _ _ _ _ hbg]
  exact h2.block b hb hne
set_option maxHeartbeats 800000 in
theorem markRgbS_own (base g n c:Nat) (F:Nat→Rgb3) (k:Int) (w:World) (ha:RgbOwn w base g n F) (hn:n≤1048576) (h0:0≤k) (h1:k≤10000000):
  Calls Tryz.prog 46 #[.slice (some ⟨g,0,none⟩) n c,.int .i64 k] w fun e w'=>e=.returned (.int .i64 (k+3 * n))∧RgbOwn w' base g n (rgbMarkedT k)∧w.grownBy w' (some g):=by
 have H0:Hid (RgbMarkSt w w base g n F k 0):=⟨ha.congr (fun i _=>by rw [if_neg (Nat.not_lt_zero i)]),⟨rfl,rfl,rfl,Nat.le_refl _,fun _ _ _=>rfl⟩⟩
 clear ha
 go_enter Tryz.func46,Tryz.ntmps46
 go_wp2_with fail
 go_loopw [1,5] (fun z i w'=>∃ (j:Nat),j≤n∧i=.int .i64 j∧z=.int .i64 (k+3 * j)∧Hid (RgbMarkSt w w' base g n F k j)) (fun _ i _=>n - (intOf i).toNat)
 case atStart=>exact⟨0,Nat.zero_le _,rfl,by simp,H0⟩
 case round=>
  clear H0
  obtain⟨j,hj,rfl,rfl,hS⟩:=hrel
  by_cases hlt:j < n
  ·rcases hS.out.1.came with q | ⟨g',off,e,hg,hc⟩
   ·omega
   ·cases e
    obtain⟨c0,c1,c2⟩:=hc j hlt
    rw[Nat.zero_add] at c0 c1 c2
    have fz:=hS.out.1.free
    have HS1:=hid_of (rgbTmark_next hS.out hlt)
    generalize (if j < j then rgbMarkedT k j else F j)=x at c0 c1 c2
    clear hc
    go_wp2_with fail
    go_roundw
    case rel=>exact⟨j+1,by omega,by go_num,by first | go_num | (congr 1; omega),HS1⟩
    case measure=>simp [intOf]; omega
  ·obtain rfl:j=n:=by omega
   have HZ:Hid (RgbOwn wr base g j (rgbMarkedT k)∧w.grownBy wr (some g)):=⟨hS.out.1.congr (fun i hi=>by rw [if_pos hi]),hS.out.2⟩
   go_wp2_with fail
   go_ret
   exact⟨rfl,HZ.out⟩
theorem markRgbS_none (a:Option Addr) (c:Nat) (k:Int) (w:World):Calls Tryz.prog 46 #[.slice a 0 c,.int .i64 k] w fun e w'=>e=.returned (.int .i64 k)∧w'=w:=by
 go_enter Tryz.func46,Tryz.ntmps46
 go_wp2_with fail
 go_loop [1,5] (fun z i=>i=.int .i64 0∧z=.int .i64 k) (fun _ _=>0)
 case atStart=>exact⟨rfl,rfl⟩
 case round=>
  obtain⟨rfl,rfl⟩:=hrel
  go_wp2_with fail
  go_ret
  exact⟨rfl,rfl⟩
end
section
namespace PutMath
open OutMath
theorem p2_8 {r:Nat} (h:r < 8):p2 r≤128:=by
 have h1:=p2_le (show r≤7 by omega)
 have h2:p2 7=128:=by decide +kernel
 omega
end PutMath
end
section
namespace RastMath
open OutMath PutMath
def hb (g:Nat→Int):Nat→Int
 | 0=>0
 | k+1=>2 * hb g k+g k
end RastMath
end
section
open Go.RowKit OutMath PutMath RastMath
def Fit12 (f:Nat→Int) (n d:Nat):Prop:=∀ i,i < n→0≤f i∧f i < p2 d
theorem Fit12.next {f:Nat→Int} {n d:Nat} (h:Fit12 f n d) (h0:0≤f n) (h1:f n < p2 d):Fit12 f (n+1) d:=fun i hi=>by
 by_cases e:i=n
 ·rw[e]; exact⟨h0,h1⟩
 ·exact h i (by omega)
end
section
open Go.RowKit RastMath
def RasR (x0 x1 x2 x3:Int) (n:Nat) (f:Nat→Int):Prop:=SideR x0∧SideR x1∧DepthR x2 x3∧(n:Int)=x0 * x1 * chan x2∧Fit12 f n x3.toNat
def RasPost (x0 x1 x2 x3:Int) (n:Nat) (f:Nat→Int) (w:World) (e:Ending) (w':World):Prop:=∃ b,e=.returned (.bool b)∧(b=true↔RasR x0 x1 x2 x3 n f)∧Below w.heap.size w w'
theorem ras_no {x0 x1 x2 x3:Int} {n:Nat} {f:Nat→Int} {w w':World} (h:¬ RasR x0 x1 x2 x3 n f) (hb:Below w.heap.size w w'):RasPost x0 x1 x2 x3 n f w (.returned (.bool false)) w':=⟨false,rfl,⟨(fun e=>by cases e),fun k=>absurd k h⟩,hb⟩
theorem ras_yes {x0 x1 x2 x3:Int} {n:Nat} {f:Nat→Int} {w w':World} (h:RasR x0 x1 x2 x3 n f) (hb:Below w.heap.size w w'):RasPost x0 x1 x2 x3 n f w (.returned (.bool true)) w':=⟨true,rfl,⟨fun _=>h,fun _=>rfl⟩,hb⟩
end
end Go.Proofs.YtkpbfmdnjnohlaaGreat
