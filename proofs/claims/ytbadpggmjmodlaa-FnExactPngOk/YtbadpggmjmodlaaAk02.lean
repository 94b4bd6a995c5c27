/-
  Texts of the proof, put together.
-/
import Derived.Test.YtbadpggmjmodlaaAk01
import Derived.WalkLawsBesides
import Derived.Shelf.SlSortCmp.QuietGrown
namespace Go.Proofs.Ytbadpggmjmodlaa
section
open Go.RowKit Go.Joins Go.Sort
def KCame (w:World) (a:Option Addr) (n:Nat) (F:Nat→ByteArray×ByteArray):Prop:=
 n=0∨∃ g off,a=some ⟨g,off,none⟩∧g < w.heap.size∧∀ j,j < n→w.cell? ⟨g,off+j * 2,none⟩=some (.string (F j).1)∧w.cell? ⟨g,off+j * 2+1,none⟩=some (.string (F j).2)
theorem KCame.called {w w':World} {a:Option Addr} {n:Nat} {F:Nat→ByteArray×ByteArray} (h:KCame w a n F) (hb:Below w.heap.size w w'):KCame w' a n F:=by
 rcases h with h | ⟨g,off,ha,hg,hc⟩
 ·exact .inl h
 ·exact .inr ⟨g,off,ha,Nat.lt_of_lt_of_le hg hb.size,fun j hj=>⟨(hb.cell (p:=⟨g,off+j * 2,none⟩) hg).trans (hc j hj).1,(hb.cell (p:=⟨g,off+j * 2+1,none⟩) hg).trans (hc j hj).2⟩⟩
theorem KCame.grown {w w':World} {a:Option Addr} {n B:Nat} {F:Nat→ByteArray×ByteArray} {row:Option Nat} (h:KCame w a n F) (hB:∀ g off,a=some ⟨g,off,none⟩→g < B) (hr:∀ k,row=some k→B≤k) (hg:w.grownBy w' row):KCame w' a n F:=by
 rcases h with h | ⟨g,off,ha,hlt,hc⟩
 ·exact .inl h
 ·have hne:some g≠row:=fun e=>by have h1:=hB g off ha; have h2:=hr g e.symm; omega
  have hb:=hg.block g hlt hne
  exact .inr ⟨g,off,ha,Nat.lt_of_lt_of_le hlt hg.size,fun j hj=>⟨(World.cell?_of_block (w:=w) hb).trans (hc j hj).1,(World.cell?_of_block (w:=w) hb).trans (hc j hj).2⟩⟩
def KOwn (w:World) (base g n:Nat) (F:Nat→ByteArray×ByteArray):Prop:=base≤g∧∃ cur,w.heap[g]?=some (.cells cur 85 (0,0))∧n * 2≤cur.size∧∀ j,j < n→cur[j * 2]?=some (.string (F j).1)∧cur[j * 2+1]?=some (.string (F j).2)
theorem KOwn.lt {w:World} {base g n:Nat} {F:Nat→ByteArray×ByteArray} (h:KOwn w base g n F):g < w.heap.size:=by
 obtain⟨_,cur,h2,_⟩:=h
 exact block_lt h2
theorem KOwn.keep {w w':World} {base g n:Nat} {F:Nat→ByteArray×ByteArray} (h:KOwn w base g n F) (hk:w'.heap[g]?=w.heap[g]?):KOwn w' base g n F:=by
 obtain⟨h1,cur,h2,h3⟩:=h
 exact⟨h1,cur,hk.trans h2,h3⟩
theorem KOwn.called {w w':World} {base g n:Nat} {F:Nat→ByteArray×ByteArray} (h:KOwn w base g n F) (hb:Below w.heap.size w w'):KOwn w' base g n F:=h.keep (hb.block g h.lt)
theorem KOwn.came {w:World} {base g n:Nat} {F:Nat→ByteArray×ByteArray} (h:KOwn w base g n F):KCame w (some ⟨g,0,none⟩) n F:=by
 refine .inr ⟨g,0,rfl,h.lt,fun j hj=>?_⟩
 obtain⟨_,cur,h2,h3,h4⟩:=h
 rw[Nat.zero_add,cell_of_block h2,cell_of_block h2]
 exact h4 j hj
theorem KOwn.free {w:World} {base g n:Nat} {F:Nat→ByteArray×ByteArray} (h:KOwn w base g n F) (k:Nat):w.frozen? ⟨g,k,none⟩=false:=by
 obtain⟨_,cur,h2,_⟩:=h
 simp[World.frozen?,h2]
def updK (F:Nat→ByteArray×ByteArray) (j:Nat) (x:ByteArray×ByteArray):Nat→ByteArray×ByteArray:=fun i=>if i=j then x else F i
theorem KOwn.set {w:World} {base g n:Nat} {F:Nat→ByteArray×ByteArray} (h:KOwn w base g n F) (j:Nat) (hj:j < n) (x y:ByteArray):KOwn ((w.setCell ⟨g,j * 2,none⟩ (.string x)).setCell ⟨g,j * 2+1,none⟩ (.string y)) base g n (updK F j (x,y)):=by
 obtain⟨h1,cur,h2,h3,h4⟩:=h
 refine⟨h1,(cur.setIfInBounds (j * 2) (.string x)).setIfInBounds (j * 2+1) (.string y),?_,by simpa using h3,fun i hi=>?_⟩
 ·simp[World.setCell,Array.getElem?_modify,h2]
 ·obtain⟨k1,k2⟩:=h4 i hi
  unfold updK
  by_cases e:i=j
  ·subst e
   rw[if_pos rfl]
   refine⟨?_,?_⟩
   ·rw[Array.getElem?_setIfInBounds_ne (by omega),Array.getElem?_setIfInBounds_self_of_lt (by omega)]
   ·rw[Array.getElem?_setIfInBounds_self_of_lt (by simp; omega)]
  ·rw[if_neg e]
   refine⟨?_,?_⟩
   ·rw[Array.getElem?_setIfInBounds_ne (by omega),Array.getElem?_setIfInBounds_ne (by omega)]; exact k1
   ·rw[Array.getElem?_setIfInBounds_ne (by omega),Array.getElem?_setIfInBounds_ne (by omega)]; exact k2
theorem KOwn.congr {w:World} {base g n:Nat} {F G:Nat→ByteArray×ByteArray} (h:KOwn w base g n F) (e:∀ j,j < n→F j=G j):KOwn w base g n G:=by
 obtain⟨h1,cur,h2,h3,h4⟩:=h
 exact⟨h1,cur,h2,h3,fun j hj=>by rw [← e j hj]; exact h4 j hj⟩
theorem eqChunk_same (x y:ByteArray) (W:World):Calls Try.prog 82 #[.agg #[.string x,.string y],.agg #[.string x,.string y]] W fun e w'=>e=.returned (.bool true)∧∃ k os',w'=grow (W.drewN k) os':=by
 go_enter Try.func82,Try.ntmps82
 go_wp2_with fail
 go_ret
 exact⟨rfl,0,_,by rw [alloc_eq_grow,alloc_eq_grow,grow_grow]; rfl⟩
set_option maxHeartbeats 800000 in
theorem eqChunkS_same (a b:Option Addr) (n c1 c2:Nat) (F:Nat→ByteArray×ByteArray) (w:World) (ha:KCame w a n F) (hb:KCame w b n F) (hn:n≤1048576):
  Calls Try.prog 48 #[.slice a n c1,.slice b n c2] w fun e w'=>e=.returned (.bool true)∧Below w.heap.size w w':=by
 have mixed:Try.prog.follows .mixedOrders=true:=by kernel_rfl
 have HA:=hid_of ha
 have HB:=hid_of hb
 clear ha hb
 go_enter Try.func48,Try.ntmps48
 go_wp2_with fail
 go_loopw [5] (fun i w'=>∃ (j:Nat),j≤n∧i=.int .i64 j∧Hid (Below w.heap.size w w')) (fun i _=>n - (intOf i).toNat)
 case atStart=>exact⟨0,Nat.zero_le _,rfl,Below.refl _ _⟩
 case round=>
  obtain⟨j,hj,rfl,hBj⟩:=hrel
  by_cases hlt:j < n
  ·rcases HA.out with h0 | ⟨g,off,rfl,hg,hc⟩
   ·omega
   ·rcases HB.out with h0 | ⟨g',off',rfl,hg',hc'⟩
    ·omega
    ·have hbg:∀ n' os,Below w.heap.size w (grow (wr.drewN n') os):=fun n' os=>by
      refine hBj.out.trans ⟨rfl,rfl,rfl,?_,fun k hk=>heap_grow_old (wr.drewN n') os (by show k < wr.heap.size; have:=hBj.out.size; omega)⟩
      rw[size_grow]
      show wr.heap.size≤wr.heap.size+os.size
      omega
     have k0:=fun n' os=>((hbg n' os).cell (p:=⟨g,off+j * 2,none⟩) hg).trans (hc j hlt).1
     have k1:=fun n' os=>((hbg n' os).cell (p:=⟨g,off+j * 2+1,none⟩) hg).trans (hc j hlt).2
     have k2:=fun n' os=>((hbg n' os).cell (p:=⟨g',off'+j * 2,none⟩) hg').trans (hc' j hlt).1
     have k3:=fun n' os=>((hbg n' os).cell (p:=⟨g',off'+j * 2+1,none⟩) hg').trans (hc' j hlt).2
     have HBG:=hid_of hbg
     have hcb:=fun (n':Nat) (os:Array Obj)=>eqChunk_same (F j).1 (F j).2 (grow (wr.drewN n') os)
     generalize (F j).1=x at k0 k2 hcb
     generalize (F j).2=y at k1 k3 hcb
     clear hc hc' hbg
     go_wp2_with fail
     go_quiet_grown (refine Calls.grown_of (hcb _ _))
     have HN:=hid_of (HBG.out nq osq)
     clear k0 k1 k2 k3 hcb HBG
     generalize grow (wr.drewN nq) osq=w2 at HN
     go_wp2_with fail
     go_roundw
     case rel=>exact⟨j+1,by omega,by go_num,HN⟩
     case measure=>simp [intOf]; omega
  ·go_wp2_with fail
   go_ret
   exact⟨rfl,hBj.out⟩
theorem KOwn.grown {w w':World} {base g n:Nat} {F:Nat→ByteArray×ByteArray} {row:Option Nat} (h:KOwn w base g n F) (hg:w.grownBy w' row) (hne:row≠some g):KOwn w' base g n F:=h.keep (hg.block g h.lt (Ne.symm hne))
end
section
open Go.RowKit Go.Joins HeadMath
theorem RgbCame.grown {w w':World} {a:Option Addr} {n B:Nat} {F:Nat→Rgb3} {row:Option Nat} (h:RgbCame w a n F) (hB:∀ g off,a=some ⟨g,off,none⟩→g < B) (hr:∀ k,row=some k→B≤k) (hg:w.grownBy w' row):RgbCame w' a n F:=by
 rcases h with h | ⟨g,off,ha,hlt,hc⟩
 ·exact .inl h
 ·have hne:some g≠row:=fun e=>by have h1:=hB g off ha; have h2:=hr g e.symm; omega
  have hb:=hg.block g hlt hne
  exact .inr ⟨g,off,ha,Nat.lt_of_lt_of_le hlt hg.size,fun j hj=>⟨(World.cell?_of_block (w:=w) hb).trans (hc j hj).1,(World.cell?_of_block (w:=w) hb).trans (hc j hj).2.1,(World.cell?_of_block (w:=w) hb).trans (hc j hj).2.2⟩⟩
theorem RgbOwn.free {w:World} {base g n:Nat} {F:Nat→Rgb3} (h:RgbOwn w base g n F) (k:Nat):w.frozen? ⟨g,k,none⟩=false:=by
 obtain⟨_,cur,h2,_⟩:=h
 simp[World.frozen?,h2]
def rgbUpdT (F:Nat→Rgb3) (j:Nat) (t:Rgb3):Nat→Rgb3:=fun i=>if i=j then t else F i
theorem RgbOwn.set {w:World} {base g n:Nat} {F:Nat→Rgb3} (h:RgbOwn w base g n F) (j:Nat) (hj:j < n) (x y z:Int):RgbOwn (((w.setCell ⟨g,j * 3,none⟩ (.int .i64 x)).setCell ⟨g,j * 3+1,none⟩ (.int .i64 y)).setCell ⟨g,j * 3+2,none⟩ (.int .i64 z)) base g n (rgbUpdT F j (x,y,z)):=by
 obtain⟨h1,cur,h2,h3,h4⟩:=h
 refine⟨h1,((cur.setIfInBounds (j * 3) (.int .i64 x)).setIfInBounds (j * 3+1) (.int .i64 y)).setIfInBounds (j * 3+2) (.int .i64 z),?_,by simpa using h3,fun i hi=>?_⟩
 ·simp[World.setCell,Array.getElem?_modify,h2]
 ·obtain⟨k1,k2,k3⟩:=h4 i hi
  unfold rgbUpdT
  by_cases e:i=j
  ·subst e
   rw[if_pos rfl]
   refine⟨?_,?_,?_⟩
   ·rw[Array.getElem?_setIfInBounds_ne (by omega),Array.getElem?_setIfInBounds_ne (by omega),Array.getElem?_setIfInBounds_self_of_lt (by omega)]
   ·rw[Array.getElem?_setIfInBounds_ne (by omega),Array.getElem?_setIfInBounds_self_of_lt (by simp; omega)]
   ·rw[Array.getElem?_setIfInBounds_self_of_lt (by simp; omega)]
  ·rw[if_neg e]
   refine⟨?_,?_,?_⟩
   ·rw[Array.getElem?_setIfInBounds_ne (by omega),Array.getElem?_setIfInBounds_ne (by omega),Array.getElem?_setIfInBounds_ne (by omega)]; exact k1
   ·rw[Array.getElem?_setIfInBounds_ne (by omega),Array.getElem?_setIfInBounds_ne (by omega),Array.getElem?_setIfInBounds_ne (by omega)]; exact k2
   ·rw[Array.getElem?_setIfInBounds_ne (by omega),Array.getElem?_setIfInBounds_ne (by omega),Array.getElem?_setIfInBounds_ne (by omega)]; exact k3
theorem RgbOwn.congr {w:World} {base g n:Nat} {F G:Nat→Rgb3} (h:RgbOwn w base g n F) (e:∀ j,j < n→F j=G j):RgbOwn w base g n G:=by
 obtain⟨h1,cur,h2,h3,h4⟩:=h
 exact⟨h1,cur,h2,h3,fun j hj=>by rw [← e j hj]; exact h4 j hj⟩
theorem RgbOwn.grown {w w':World} {base g n:Nat} {F:Nat→Rgb3} {row:Option Nat} (h:RgbOwn w base g n F) (hg:w.grownBy w' row) (hne:row≠some g):RgbOwn w' base g n F:=h.keep (hg.block g h.lt (Ne.symm hne))
end
section
namespace PutMath
open OutMath
theorem p2_8 {r:Nat} (h:r < 8):p2 r≤128:=by
 have h1:=p2_le (show r≤7 by omega)
 have h2:p2 7=128:=by decide +kernel
 omega
end PutMath
end
section
namespace RastMath
open OutMath PutMath
def hb (g:Nat→Int):Nat→Int
 | 0=>0
 | k+1=>2 * hb g k+g k
end RastMath
end
section
open Go.RowKit OutMath PutMath RastMath
def Fit12 (f:Nat→Int) (n d:Nat):Prop:=∀ i,i < n→0≤f i∧f i < p2 d
theorem Fit12.next {f:Nat→Int} {n d:Nat} (h:Fit12 f n d) (h0:0≤f n) (h1:f n < p2 d):Fit12 f (n+1) d:=fun i hi=>by
 by_cases e:i=n
 ·rw[e]; exact⟨h0,h1⟩
 ·exact h i (by omega)
end
section
open Go.RowKit RastMath
def RasR (x0 x1 x2 x3:Int) (n:Nat) (f:Nat→Int):Prop:=SideR x0∧SideR x1∧DepthR x2 x3∧(n:Int)=x0 * x1 * chan x2∧Fit12 f n x3.toNat
def RasPost (x0 x1 x2 x3:Int) (n:Nat) (f:Nat→Int) (w:World) (e:Ending) (w':World):Prop:=∃ b,e=.returned (.bool b)∧(b=true↔RasR x0 x1 x2 x3 n f)∧Below w.heap.size w w'
theorem ras_no {x0 x1 x2 x3:Int} {n:Nat} {f:Nat→Int} {w w':World} (h:¬ RasR x0 x1 x2 x3 n f) (hb:Below w.heap.size w w'):RasPost x0 x1 x2 x3 n f w (.returned (.bool false)) w':=⟨false,rfl,⟨(fun e=>by cases e),fun k=>absurd k h⟩,hb⟩
theorem ras_yes {x0 x1 x2 x3:Int} {n:Nat} {f:Nat→Int} {w w':World} (h:RasR x0 x1 x2 x3 n f) (hb:Below w.heap.size w w'):RasPost x0 x1 x2 x3 n f w (.returned (.bool true)) w':=⟨true,rfl,⟨fun _=>h,fun _=>rfl⟩,hb⟩
end
section
open Go.RowKit OutMath PutMath RastMath HeadMath
def ClearR (d c table:Int) (n:Nat) (f:Nat→Int):Prop:=1≤n∧((c=0∧n=1∧Fit12 f n d.toNat)∨(c=2∧n=3∧Fit12 f n d.toNat)∨(c=3∧(n:Int)≤table∧Fit12 f n 8))
theorem p2_8:p2 8=256:=by decide +kernel
end
section
open Go.RowKit OutMath PutMath RastMath HeadMath ChunkMath CrcMath
open scoped Classical
structure Pic where
 hw:Int
 hh:Int
 hd:Int
 hc:Int
 lace:Bool
 tn:Nat
 T:Nat→Rgb3
 cn:Nat
 C:Nat→Int
 rw:Int
 rh:Int
 rc:Int
 rd:Int
 sn:Nat
 S:Nat→Int
 kn:Nat
 K:Nat→Chk
def clearN:ByteArray:=⟨#[116,82,78,83]⟩
def KeepR (c:Chk):Prop:=(NameR c.1∧97≤byteAt c.1 0)∧¬ c.1=clearN∧c.2.size≤2600
def KeptR (n:Nat) (K:Nat→Chk):Prop:=n≤32∧∀ i,i < n→KeepR (K i)
def FitsR (c d:Int) (n:Nat) (T:Nat→Rgb3):Prop:=if c=3 then TableR T n∧(n:Int)≤p2 d.toNat else n=0
def ClrR (d c:Int) (tn cn:Nat) (C:Nat→Int):Prop:=cn=0∨ClearR d c (tn:Int) cn C
def InR (c:Int) (tn sn:Nat) (S:Nat→Int):Prop:=c=3→∀ i,i < sn→S i < (tn:Int)
def PngR (p:Pic):Prop:=(HeadR p.hw p.hh p.hd p.hc∧RasR p.rw p.rh p.rc p.rd p.sn p.S∧p.rw=p.hw∧p.rh=p.hh∧p.rc=p.hc∧p.rd=p.hd)∧FitsR p.hc p.hd p.tn p.T∧ClrR p.hd p.hc p.tn p.cn p.C∧InR p.hc p.tn p.sn p.S∧KeptR p.kn p.K
end
section
open Go.RowKit Go.Joins HeadMath
structure PicA where
 ta:Option Addr
 tc:Nat
 ca:Option Addr
 cc:Nat
 sa:Option Addr
 sc:Nat
 ka:Option Addr
 kc:Nat
def pngV (p:Pic) (q:PicA):Value:=.agg #[.int .i64 p.hw,.int .i64 p.hh,.int .i64 p.hd,.int .i64 p.hc,.bool p.lace,.slice q.ta p.tn q.tc,.slice q.ca p.cn q.cc,.int .i64 p.rw,.int .i64 p.rh,.int .i64 p.rc,.int .i64 p.rd,.slice q.sa p.sn q.sc,.slice q.ka p.kn q.kc]
structure PngIn (w:World) (p:Pic) (q:PicA):Prop where
 t:RgbCame w q.ta p.tn p.T
 c:Came w q.ca p.cn p.C
 s:Came w q.sa p.sn p.S
 k:KCame w q.ka p.kn p.K
 capped:p.sn≤q.sc∧q.sc≤maxLen
theorem PngIn.called {w w':World} {p:Pic} {q:PicA} (h:PngIn w p q) (hb:Below w.heap.size w w'):PngIn w' p q:=⟨h.t.called hb,h.c.called hb,h.s.called hb,h.k.called hb,h.capped⟩
structure PngSz (p:Pic):Prop where
 t:p.tn≤1048576
 c:p.cn≤1048576
 s:p.sn≤1048576
 k:p.kn≤1048576
 m:∀ i,i < p.kn→(p.K i).1.size≤1048576∧(p.K i).2.size≤1048576
structure PngOwn (w:World) (base:Nat) (p:Pic) (gt gc gs gk:Nat):Prop where
 t:RgbOwn w base gt p.tn p.T
 c:IOwn w base gc p.cn p.cn p.C
 s:IOwn w base gs p.sn p.sn p.S
 k:KOwn w base gk p.kn p.K
 ne:gt < gc∧gc < gs∧gs < gk
def picA (p:Pic) (gt gc gs gk:Nat):PicA:=⟨some ⟨gt,0,none⟩,p.tn,some ⟨gc,0,none⟩,p.cn,some ⟨gs,0,none⟩,p.sn,some ⟨gk,0,none⟩,p.kn⟩
theorem PngOwn.called {w w':World} {base:Nat} {p:Pic} {gt gc gs gk:Nat} (h:PngOwn w base p gt gc gs gk) (hb:Below w.heap.size w w'):PngOwn w' base p gt gc gs gk:=⟨h.t.called hb,h.c.called hb,h.s.called hb,h.k.called hb,h.ne⟩
theorem PngOwn.lie {w:World} {base:Nat} {p:Pic} {gt gc gs gk:Nat} (h:PngOwn w base p gt gc gs gk) (hz:PngSz p):PngIn w p (picA p gt gc gs gk):=⟨h.t.came,h.c.sl.came,h.s.sl.came,h.k.came,Nat.le_refl _,by have:=hz.s; show p.sn≤maxLen; unfold maxLen; omega⟩
end
end Go.Proofs.Ytbadpggmjmodlaa
