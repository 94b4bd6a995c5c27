/-
  Texts of the proof, put together.
-/
import Derived.Test.YtkpbfmdnjnohlaaGreatTk03
import Derived.BigQuiet
namespace Go.Proofs.YtkpbfmdnjnohlaaGreat
section
open Go.RowKit OutMath PutMath BigTextMath RastMath HeadMath
def ClearR (d c table:Int) (n:Nat) (f:Nat→Int):Prop:=1≤n∧((c=0∧n=1∧Fit12 f n d.toNat)∨(c=2∧n=3∧Fit12 f n d.toNat)∨(c=3∧(n:Int)≤table∧Fit12 f n 8))
theorem p2_8:p2 8=256:=by decide +kernel
end
section
open Go.RowKit OutMath PutMath BigTextMath RastMath HeadMath ChunkMath CrcMath
open scoped Classical
structure Pic where
 hw:Int
 hh:Int
 hd:Int
 hc:Int
 lace:Bool
 tn:Nat
 T:Nat→Rgb3
 cn:Nat
 C:Nat→Int
 rw:Int
 rh:Int
 rc:Int
 rd:Int
 sn:Nat
 S:Nat→Int
 kn:Nat
 K:Nat→Chk
def clearN:ByteArray:=⟨#[116,82,78,83]⟩
def KeepR (c:Chk):Prop:=(NameR c.1∧97≤byteAt c.1 0)∧¬ c.1=clearN∧c.2.size≤2600
def KeptR (n:Nat) (K:Nat→Chk):Prop:=n≤32∧∀ i,i < n→KeepR (K i)
def FitsR (c d:Int) (n:Nat) (T:Nat→Rgb3):Prop:=if c=3 then TableR T n∧(n:Int)≤p2 d.toNat else n=0
def ClrR (d c:Int) (tn cn:Nat) (C:Nat→Int):Prop:=cn=0∨ClearR d c (tn:Int) cn C
def InR (c:Int) (tn sn:Nat) (S:Nat→Int):Prop:=c=3→∀ i,i < sn→S i < (tn:Int)
def PngR (p:Pic):Prop:=(HeadR p.hw p.hh p.hd p.hc∧RasR p.rw p.rh p.rc p.rd p.sn p.S∧p.rw=p.hw∧p.rh=p.hh∧p.rc=p.hc∧p.rd=p.hd)∧FitsR p.hc p.hd p.tn p.T∧ClrR p.hd p.hc p.tn p.cn p.C∧InR p.hc p.tn p.sn p.S∧KeptR p.kn p.K
end
section
open Go.RowKit Go.Joins HeadMath
structure PicA where
 ta:Option Addr
 tc:Nat
 ca:Option Addr
 cc:Nat
 sa:Option Addr
 sc:Nat
 ka:Option Addr
 kc:Nat
def pngV (p:Pic) (q:PicA):Value:=.agg #[.int .i64 p.hw,.int .i64 p.hh,.int .i64 p.hd,.int .i64 p.hc,.bool p.lace,.slice q.ta p.tn q.tc,.slice q.ca p.cn q.cc,.int .i64 p.rw,.int .i64 p.rh,.int .i64 p.rc,.int .i64 p.rd,.slice q.sa p.sn q.sc,.slice q.ka p.kn q.kc]
structure PngIn (w:World) (p:Pic) (q:PicA):Prop where
 t:RgbCame w q.ta p.tn p.T
 c:Came w q.ca p.cn p.C
 s:Came w q.sa p.sn p.S
 k:KCame w q.ka p.kn p.K
 capped:p.sn≤q.sc∧q.sc≤maxLen
theorem PngIn.called {w w':World} {p:Pic} {q:PicA} (h:PngIn w p q) (hb:Below w.heap.size w w'):PngIn w' p q:=⟨h.t.called hb,h.c.called hb,h.s.called hb,h.k.called hb,h.capped⟩
structure PngSz (p:Pic):Prop where
 t:p.tn≤1048576
 c:p.cn≤1048576
 s:p.sn≤1048576
 k:p.kn≤1048576
 m:∀ i,i < p.kn→(p.K i).1.size≤1048576∧(p.K i).2.size≤1048576
structure PngOwn (w:World) (base:Nat) (p:Pic) (gt gc gs gk:Nat):Prop where
 t:RgbOwn w base gt p.tn p.T
 c:IOwn w base gc p.cn p.cn p.C
 s:IOwn w base gs p.sn p.sn p.S
 k:KOwn w base gk p.kn p.K
 ne:gt < gc∧gc < gs∧gs < gk
def picA (p:Pic) (gt gc gs gk:Nat):PicA:=⟨some ⟨gt,0,none⟩,p.tn,some ⟨gc,0,none⟩,p.cn,some ⟨gs,0,none⟩,p.sn,some ⟨gk,0,none⟩,p.kn⟩
theorem PngOwn.called {w w':World} {base:Nat} {p:Pic} {gt gc gs gk:Nat} (h:PngOwn w base p gt gc gs gk) (hb:Below w.heap.size w w'):PngOwn w' base p gt gc gs gk:=⟨h.t.called hb,h.c.called hb,h.s.called hb,h.k.called hb,h.ne⟩
theorem PngOwn.lie {w:World} {base:Nat} {p:Pic} {gt gc gs gk:Nat} (h:PngOwn w base p gt gc gs gk) (hz:PngSz p):PngIn w p (picA p gt gc gs gk):=⟨h.t.came,h.c.sl.came,h.s.sl.came,h.k.came,Nat.le_refl _,by have:=hz.s; show p.sn≤maxLen; unfold maxLen; omega⟩
end
section
open Go.RowKit Go.Joins
theorem info_i64:(Tryz.prog.info? 3).map (fun i=>(i.zero,i.size,i.bytes))=some (some (.int .i64 0),1,8):=by kernel_rfl
theorem make_ints (w:World) (n:Nat) (hn:n≤1048576):(Instr.makeSlice 25 (.int .i64 n) (.int .i64 n)).run Tryz.prog w=.ok (.slice (some ⟨w.heap.size,0,none⟩) n n) (w.alloc (.cells (madeCells #[Value.int .i64 0] n) 3)):=by
 obtain⟨i0,hi0,hz0,hz1,hz2⟩:=info_parts info_i64
 have h:=run_make (P:=Tryz.prog) w 25 3 i0 (.int .i64 0) Tryz.underlying25 hi0 hz0 .i64 .i64 n n (by omega) (by omega) (by rw [hz2]; omega) (by omega)
 rw[hz1,Int.toNat_natCast,Nat.mul_one] at h
 exact h
set_option maxHeartbeats 800000 in
theorem toIntS_any (a:Option Addr) (n cap:Nat) (f:Nat→Int) (w:World) (hr:Came w a n f) (hn:n≤1048576):
  Calls Tryz.prog 33 #[.slice a n cap] w fun e w'=>e=.returned (.slice (some ⟨w.heap.size,0,none⟩) n n)∧IOwn w' w.heap.size w.heap.size n n f∧Below w.heap.size w w':=by
 have hm:=make_ints w n hn
 have hO:=IOwn.made (base:=w.heap.size) w n (by unfold maxLen; omega) (Nat.le_refl _)
 have hB:Below w.heap.size w (w.alloc (.cells (madeCells #[Value.int .i64 0] n) 3)):=bstart _ _
 generalize w.alloc (.cells (madeCells #[Value.int .i64 0] n) 3)=w1 at hm hO hB
 have HO:Hid (IOwn w1 w.heap.size w.heap.size n n (fun _=>0)):=hO
 have HB:Hid (Below w.heap.size w w1):=hB
 have HR:Hid (Came w a n f):=hr
 clear hO hr hB
 go_enter Tryz.func33,Tryz.ntmps33
 go_wp2_with fail
 go_loopw [4] (fun i w'=>∃ (j:Nat) (h:Nat→Int),j≤n∧i=.int .i64 j∧Hid (∀ i,i < j→h i=f i)∧Hid (IOwn w' w.heap.size w.heap.size n n h)∧Hid (Below w.heap.size w w')) (fun i _=>n - (intOf i).toNat)
 case atStart=>exact⟨0,_,Nat.zero_le _,rfl,fun i hi=>absurd hi (Nat.not_lt_zero i),HO,HB⟩
 case round=>
  obtain⟨j,h,hj,rfl,hh,hOj,hBj⟩:=hrel
  by_cases hlt:j < n
  ·rcases HR.out with h0 | ⟨g,off,rfl,hg,hc⟩
   ·omega
   ·have c0:wr.cell? ⟨g,off+j,none⟩=some (.int .i64 (f j)):=(hBj.out.cell (p:=⟨g,off+j,none⟩) hg).trans (hc j hlt)
    have c1:=hOj.out.cell j hlt
    have f1:=hOj.out.free j hlt
    have hl:=hOj.out.lt
    have hl2:g < wr.heap.size:=Nat.lt_of_lt_of_le hg hBj.out.size
    have HO1:Hid (IOwn (wr.setCell ⟨w.heap.size,j,none⟩ (.int .i64 (f j))) w.heap.size w.heap.size n n (upd h j (f j))):=hOj.out.set j hlt _
    have HB1:Hid (Below w.heap.size w (wr.setCell ⟨w.heap.size,j,none⟩ (.int .i64 (f j)))):=Below.setCell (p:=⟨w.heap.size,j,none⟩) hBj.out (Nat.le_refl _) _
    have HH:Hid (∀ i,i < j+1→upd h j (f j) i=f i):=by
     intro i hi
     unfold upd
     by_cases e:i=j
     ·rw[if_pos e,e]
     ·rw[if_neg e]; exact hh.out i (by omega)
    clear hc
    go_wp2_with fail
    go_roundw
    case rel=>exact⟨j+1,_,by omega,by go_num,HH,HO1,HB1⟩
    case measure=>simp [intOf]; omega
  ·obtain rfl:j=n:=by omega
   go_wp2_with fail
   go_ret
   exact⟨rfl,hOj.out.congr hh.out,hBj.out⟩
set_option maxHeartbeats 800000 in
theorem eqIntS_same (a b:Option Addr) (n c1 c2:Nat) (f:Nat→Int) (w:World) (ha:Came w a n f) (hb:Came w b n f) (hn:n≤1048576):
  Calls Tryz.prog 43 #[.slice a n c1,.slice b n c2] w fun e w'=>e=.returned (.bool true)∧Below w.heap.size w w':=by
 have HA:Hid (Came w a n f):=ha
 have HB:Hid (Came w b n f):=hb
 clear ha hb
 go_enter Tryz.func43,Tryz.ntmps43
 go_wp2_with fail
 go_loopw [5] (fun i w'=>∃ (j:Nat),j≤n∧i=.int .i64 j∧Hid (Below w.heap.size w w')) (fun i _=>n - (intOf i).toNat)
 case atStart=>exact⟨0,Nat.zero_le _,rfl,Below.refl _ _⟩
 case round=>
  obtain⟨j,hj,rfl,hBj⟩:=hrel
  by_cases hlt:j < n
  ·rcases HA.out with h0 | ⟨g,off,rfl,hg,hc⟩
   ·omega
   ·rcases HB.out with h0 | ⟨g',off',rfl,hg',hc'⟩
    ·omega
    ·have k0:wr.cell? ⟨g,off+j,none⟩=some (.int .i64 (f j)):=(hBj.out.cell (p:=⟨g,off+j,none⟩) hg).trans (hc j hlt)
     have k1:wr.cell? ⟨g',off'+j,none⟩=some (.int .i64 (f j)):=(hBj.out.cell (p:=⟨g',off'+j,none⟩) hg').trans (hc' j hlt)
     have l0:g < wr.heap.size:=Nat.lt_of_lt_of_le hg hBj.out.size
     have l1:g' < wr.heap.size:=Nat.lt_of_lt_of_le hg' hBj.out.size
     clear hc hc'
     go_wp2_with fail
     go_region
     all_goals
      go_wp2_with fail
      go_roundw
      case rel=>exact⟨j+1,by omega,by go_num,hBj.out.drew⟩
      case measure=>simp [intOf]; omega
  ·go_wp2_with fail
   go_ret
   exact⟨rfl,hBj.out⟩
theorem IOwn.came {w:World} {base g n cap:Nat} {f:Nat→Int} (h:IOwn w base g n cap f):Came w (some ⟨g,0,none⟩) n f:=
 .inr ⟨g,0,rfl,h.lt,fun j hj=>by rw [Nat.zero_add]; exact h.cell j hj⟩
end
section
open Go.RowKit Go.Joins
theorem szIntS_any (a:Option Addr) (n cap:Nat) (l:Int) (w:World) (h0:0≤l) (h1:l≤1048576) (hn:n≤maxLen):
  Calls Tryz.prog 24 #[.slice a n cap,.int .i64 l] w fun e w'=>e=.returned (.int .i64 (if (n:Int)≤l then l - n else -1))∧w'=w:=by
 unfold maxLen at hn
 by_cases h:(n:Int)≤l
 ·rw[if_pos h]
  have d:decide (l - (n:Int) < 0)=false:=decide_eq_false (by omega)
  go_enter Tryz.func24,Tryz.ntmps24
  go_wp2_with fail
  go_ret
  exact⟨rfl,rfl⟩
 ·rw[if_neg h]
  have d:decide (l - (n:Int) < 0)=true:=decide_eq_true (by omega)
  go_enter Tryz.func24,Tryz.ntmps24
  go_wp2_with fail
  go_ret
  exact⟨rfl,rfl⟩
theorem szRaster_any (x0 x1 x2 x3:Int) (a:Option Addr) (n cap:Nat) (l:Int) (w:World) (h0:0≤l) (h1:l≤1048576) (hn:n≤maxLen):
  Calls Tryz.prog 25 #[.agg #[.int .i64 x0,.int .i64 x1,.int .i64 x2,.int .i64 x3,.slice a n cap],.int .i64 l] w fun e w'=>e=.returned (.int .i64 (if (n:Int)≤l then l - n else -1))∧Below w.heap.size w w':=by
 have hs:=fun W=>szIntS_any a n cap l W h0 h1 hn
 have hB:=hid_of (bstart w (.cells #[.int .i64 x0,.int .i64 x1,.int .i64 x2,.int .i64 x3,.slice a n cap] 27))
 unfold maxLen at hn
 by_cases h:(n:Int)≤l
 ·rw[if_pos h] at hs ⊢
  have d:decide (l - (n:Int) < 0)=false:=decide_eq_false (by omega)
  go_enter Tryz.func25,Tryz.ntmps25
  go_wp2_with fail
  refine (hs _).mono ?_
  rintro e w1 ⟨rfl,rfl⟩
  go_wp2_with fail
  go_ret
  exact⟨rfl,hB.out⟩
 ·rw[if_neg h] at hs ⊢
  go_enter Tryz.func25,Tryz.ntmps25
  go_wp2_with fail
  refine (hs _).mono ?_
  rintro e w1 ⟨rfl,rfl⟩
  go_wp2_with fail
  go_ret
  exact⟨rfl,hB.out⟩
def RasCopy (x0 x1 x2 x3:Int) (n:Nat) (f:Nat→Int) (w:World) (e:Ending) (w':World):Prop:=∃ g,e=.returned (.agg #[.int .i64 x0,.int .i64 x1,.int .i64 x2,.int .i64 x3,.slice (some ⟨g,0,none⟩) n n])∧IOwn w' w.heap.size g n n f∧Below w.heap.size w w'
set_option maxHeartbeats 1600000 in
theorem toRaster_any (x0 x1 x2 x3:Int) (a:Option Addr) (n cap:Nat) (f:Nat→Int) (w:World) (hC:Came w a n f) (hn:n≤1048576):
  Calls Tryz.prog 34 #[.agg #[.int .i64 x0,.int .i64 x1,.int .i64 x2,.int .i64 x3,.slice a n cap]] w (RasCopy x0 x1 x2 x3 n f w):=by
 have HC:=hid_of hC
 clear hC
 go_enter Tryz.func34,Tryz.ntmps34
 go_wp2_with fail
 have HB0:Hid (Below w.heap.size w (((w.alloc (.cells #[.int .i64 x0,.int .i64 x1,.int .i64 x2,.int .i64 x3,.slice a n cap] 27)).alloc (.cells #[.int .i64 0,.int .i64 0,.int .i64 0,.int .i64 0,.slice none 0 0] 34)).alloc (.cells #[.int .i64 x0,.int .i64 x1,.int .i64 x2,.int .i64 x3,.slice none 0 0] 34))):=bal (bal (bstart _ _) _) _
 have HS0:Hid ((((w.alloc (.cells #[.int .i64 x0,.int .i64 x1,.int .i64 x2,.int .i64 x3,.slice a n cap] 27)).alloc (.cells #[.int .i64 0,.int .i64 0,.int .i64 0,.int .i64 0,.slice none 0 0] 34)).alloc (.cells #[.int .i64 x0,.int .i64 x1,.int .i64 x2,.int .i64 x3,.slice none 0 0] 34)).heap.size=w.heap.size+3):=by
  show _=_
  simp
 have HR1:Hid ((((w.alloc (.cells #[.int .i64 x0,.int .i64 x1,.int .i64 x2,.int .i64 x3,.slice a n cap] 27)).alloc (.cells #[.int .i64 0,.int .i64 0,.int .i64 0,.int .i64 0,.slice none 0 0] 34)).alloc (.cells #[.int .i64 x0,.int .i64 x1,.int .i64 x2,.int .i64 x3,.slice none 0 0] 34)).heap[w.heap.size+1]?=some (.cells #[.int .i64 0,.int .i64 0,.int .i64 0,.int .i64 0,.slice none 0 0] 34 (0,0))):=by
  show (((w.heap.push _).push _).push _)[w.heap.size+1]?=_
  rw[Array.getElem?_push,if_neg (by simp),Array.getElem?_push,if_pos (by simp)]
 have HR2:Hid ((((w.alloc (.cells #[.int .i64 x0,.int .i64 x1,.int .i64 x2,.int .i64 x3,.slice a n cap] 27)).alloc (.cells #[.int .i64 0,.int .i64 0,.int .i64 0,.int .i64 0,.slice none 0 0] 34)).alloc (.cells #[.int .i64 x0,.int .i64 x1,.int .i64 x2,.int .i64 x3,.slice none 0 0] 34)).heap[w.heap.size+1+1]?=some (.cells #[.int .i64 x0,.int .i64 x1,.int .i64 x2,.int .i64 x3,.slice none 0 0] 34 (0,0))):=by
  show (((w.heap.push _).push _).push _)[w.heap.size+1+1]?=_
  rw[Array.getElem?_push,if_pos (by simp)]
 generalize ((w.alloc (.cells #[.int .i64 x0,.int .i64 x1,.int .i64 x2,.int .i64 x3,.slice a n cap] 27)).alloc (.cells #[.int .i64 0,.int .i64 0,.int .i64 0,.int .i64 0,.slice none 0 0] 34)).alloc (.cells #[.int .i64 x0,.int .i64 x1,.int .i64 x2,.int .i64 x3,.slice none 0 0] 34)=W3 at HB0 HS0 HR1 HR2 ⊢
 refine (toIntS_any a n cap f W3 (HC.out.called HB0.out) hn).mono ?_
 rintro e w4 ⟨rfl,hO4,hB4⟩
 have q1:w4.heap[w.heap.size+1]?=some (.cells #[.int .i64 0,.int .i64 0,.int .i64 0,.int .i64 0,.slice none 0 0] 34 (0,0)):=(hB4.block _ (by rw [HS0.out]; omega)).trans HR1.out
 have q2:w4.heap[w.heap.size+1+1]?=some (.cells #[.int .i64 x0,.int .i64 x1,.int .i64 x2,.int .i64 x3,.slice none 0 0] 34 (0,0)):=(hB4.block _ (by rw [HS0.out]; omega)).trans HR2.out
 rw[HS0.out] at hO4 ⊢
 have HO4:=hid_of hO4
 have HB4:=hid_of (bnext HB0.out hB4)
 have c0:w4.cell? ⟨w.heap.size+1+1,0,none⟩=some (.int .i64 x0):=(cell_of_block q2 0).trans rfl
 have c1:w4.cell? ⟨w.heap.size+1+1,1,none⟩=some (.int .i64 x1):=(cell_of_block q2 1).trans rfl
 have c2:w4.cell? ⟨w.heap.size+1+1,2,none⟩=some (.int .i64 x2):=(cell_of_block q2 2).trans rfl
 have c3:w4.cell? ⟨w.heap.size+1+1,3,none⟩=some (.int .i64 x3):=(cell_of_block q2 3).trans rfl
 have c4:w4.cell? ⟨w.heap.size+1+1,4,none⟩=some (.slice none 0 0):=(cell_of_block q2 4).trans rfl
 have b0:w4.cell? ⟨w.heap.size+1,0,none⟩=some (.int .i64 0):=(cell_of_block q1 0).trans rfl
 have b1:w4.cell? ⟨w.heap.size+1,1,none⟩=some (.int .i64 0):=(cell_of_block q1 1).trans rfl
 have b2:w4.cell? ⟨w.heap.size+1,2,none⟩=some (.int .i64 0):=(cell_of_block q1 2).trans rfl
 have b3:w4.cell? ⟨w.heap.size+1,3,none⟩=some (.int .i64 0):=(cell_of_block q1 3).trans rfl
 have b4:w4.cell? ⟨w.heap.size+1,4,none⟩=some (.slice none 0 0):=(cell_of_block q1 4).trans rfl
 have cf:∀ q,w4.frozen? ⟨w.heap.size+1+1,q,none⟩=false:=fun q=>by simp [World.frozen?,q2]
 have bf:∀ q,w4.frozen? ⟨w.heap.size+1,q,none⟩=false:=fun q=>by simp [World.frozen?,q1]
 have l1:=block_lt q1
 have l2:=block_lt q2
 clear q1 q2 hO4 hB4
 go_wp2_with fail
 refine bodyPost_ret (v:=.agg #[.int .i64 x0,.int .i64 x1,.int .i64 x2,.int .i64 x3,.slice (some ⟨w.heap.size+3,0,none⟩) n n]) ?_ rfl ⟨_,rfl,?_,?_⟩
 ·simp[results,Tryz.results34,go_sem, *]
 ·refine (HO4.out.mono (by omega)).keep ?_
  repeat' rw [Below.heap_setCell _ _ _ _ (by first | (simp; done) | (simp; omega))]
 ·repeat' refine Below.setCell ?_ (by first | (simp; done) | (simp; omega)) _
  exact HB4.out
set_option maxHeartbeats 1600000 in
theorem eqRaster_same (x0 x1 x2 x3:Int) (a b:Option Addr) (n c1 c2:Nat) (f:Nat→Int) (w:World) (ha:Came w a n f) (hb:Came w b n f) (hn:n≤1048576):
  Calls Tryz.prog 44 #[.agg #[.int .i64 x0,.int .i64 x1,.int .i64 x2,.int .i64 x3,.slice a n c1],.agg #[.int .i64 x0,.int .i64 x1,.int .i64 x2,.int .i64 x3,.slice b n c2]] w fun e w'=>e=.returned (.bool true)∧Below w.heap.size w w':=by
 have HA:=hid_of ha
 have HB:=hid_of hb
 clear ha hb
 have n0:(x0 != x0)=false:=by simp
 have n1:(x1 != x1)=false:=by simp
 have n2:(x2 != x2)=false:=by simp
 have n3:(x3 != x3)=false:=by simp
 go_enter Tryz.func44,Tryz.ntmps44
 go_wp2_with fail
 have HB0:Hid (Below w.heap.size w ((w.alloc (.cells #[.int .i64 x0,.int .i64 x1,.int .i64 x2,.int .i64 x3,.slice a n c1] 34)).alloc (.cells #[.int .i64 x0,.int .i64 x1,.int .i64 x2,.int .i64 x3,.slice b n c2] 34))):=bal (bstart _ _) _
 refine (eqIntS_same a b n c1 c2 f _ (HA.out.called HB0.out) (HB.out.called HB0.out) hn).mono ?_
 rintro e w1 ⟨rfl,hB1⟩
 have HB1:=hid_of (bnext HB0.out hB1)
 clear hB1
 go_wp2_with fail
 go_ret
 exact⟨rfl,HB1.out⟩
end
end Go.Proofs.YtkpbfmdnjnohlaaGreat
