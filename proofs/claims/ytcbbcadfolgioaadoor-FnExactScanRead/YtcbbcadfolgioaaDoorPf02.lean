/-
  Texts of the proof, put together.
-/
import Derived.Test.YtcbbcadfolgioaaDoorPf01
import Derived.WalkLawsBesides
import Derived.BigQuiet
namespace Go.Proofs.YtcbbcadfolgioaaDoor
section
open Go.RowKit Go.Joins
def fints (f:Nat→Int) (n:Nat):List Value:=(List.range n).map fun i=>.int .i64 (f i)
def upd (f:Nat→Int) (j:Nat) (x:Int):Nat→Int:=fun i=>if i=j then x else f i
theorem fints_length (f:Nat→Int) (n:Nat):(fints f n).length=n:=by simp [fints]
theorem fints_get (f:Nat→Int) (n j:Nat) (h:j < (fints f n).length):(fints f n)[j]=.int .i64 (f j):=by simp [fints]
theorem fints_congr {f g:Nat→Int} {n:Nat} (h:∀ i,i < n→f i=g i):fints f n=fints g n:=by
 unfold fints
 refine List.map_congr_left fun i hi=>?_
 rw[h i (List.mem_range.mp hi)]
theorem fints_set (f:Nat→Int) (n j:Nat) (x:Int):(fints f n).set j (.int .i64 x)=fints (upd f j x) n:=by
 refine List.ext_getElem (by simp [fints]) fun i h1 h2=>?_
 rw[List.getElem_set,fints_get (upd f j x)]
 by_cases hij:j=i
 ·subst hij
  rw[if_pos rfl]
  simp[upd]
 ·have hji:¬ i=j:=fun h=>hij h.symm
  rw[if_neg hij,fints_get]
  simp[upd,hji]
theorem fints_app (f:Nat→Int) (n:Nat) (x:Int):fints f n ++ [.int .i64 x]=fints (upd f n x) (n+1):=by
 unfold fints
 rw[List.range_succ,List.map_append]
 congr 1
 ·refine List.map_congr_left fun i hi=>?_
  have:=List.mem_range.mp hi
  unfold upd
  rw[if_neg (by omega)]
 ·unfold upd
  simp
def IOwn (w:World) (base g n cap:Nat) (f:Nat→Int):Prop:=Own 3 w base g (.slice (some ⟨g,0,none⟩) n cap) (fints f n)
section
variable {w w':World} {base g n cap:Nat} {f:Nat→Int}
theorem IOwn.lt (h:IOwn w base g n cap f):g < w.heap.size:=Own.lt h
theorem IOwn.base_le (h:IOwn w base g n cap f):base≤g:=Own.base_le h
theorem IOwn.cell (h:IOwn w base g n cap f) (j:Nat) (hj:j < n):w.cell? ⟨g,j,none⟩=some (.int .i64 (f j)):=by
 have h':j < (fints f n).length:=by rw [fints_length]; exact hj
 rw[Own.cell h j h',fints_get]
theorem IOwn.free (h:IOwn w base g n cap f) (j:Nat) (hj:j < n):w.frozen? ⟨g,j,none⟩=false:=Own.free h j (by rw [fints_length]; exact hj)
theorem IOwn.set (h:IOwn w base g n cap f) (j:Nat) (hj:j < n) (x:Int):IOwn (w.setCell ⟨g,j,none⟩ (.int .i64 x)) base g n cap (upd f j x):=by
 have k:=Own.set h j (by rw [fints_length]; exact hj) (.int .i64 x)
 rw[fints_set] at k
 exact k
theorem IOwn.congr {f':Nat→Int} (h:IOwn w base g n cap f) (e:∀ i,i < n→f i=f' i):IOwn w base g n cap f':=by
 unfold IOwn at h ⊢
 rw[← fints_congr e]
 exact h
theorem IOwn.keep (h:IOwn w base g n cap f) (hk:w'.heap[g]?=w.heap[g]?):IOwn w' base g n cap f:=Own.keep h hk
theorem IOwn.alloc (h:IOwn w base g n cap f) (o:Obj):IOwn (w.alloc o) base g n cap f:=Own.alloc h o
theorem IOwn.drew (h:IOwn w base g n cap f):IOwn w.drew base g n cap f:=Own.drewN h 1
theorem IOwn.below {B:Nat} (h:IOwn w base g n cap f) (hb:Below B w w') (hg:g < B):IOwn w' base g n cap f:=Own.below h hb hg
theorem IOwn.called (h:IOwn w base g n cap f) (hb:Below w.heap.size w w'):IOwn w' base g n cap f:=Own.below h hb h.lt
theorem IOwn.mono {b:Nat} (h:IOwn w base g n cap f) (hb:b≤base):IOwn w b g n cap f:=Own.mono h hb
theorem IOwn.grown {row:Option Nat} (h:IOwn w base g n cap f) (hg:w.grownBy w' row) (hne:row≠some g):IOwn w' base g n cap f:=h.keep (hg.block g h.lt (Ne.symm hne))
theorem made_ints (n:Nat):(madeCells #[Value.int .i64 0] n).toList=fints (fun _=>0) n:=by
 unfold madeCells fints
 rw[Array.toList_map,Array.toList_range]
 refine List.map_congr_left fun i _=>?_
 simp[Nat.mod_one]
theorem IOwn.made (w:World) (n:Nat) (hn:n≤maxLen) (hb:base≤w.heap.size):IOwn (w.alloc (.cells (madeCells #[Value.int .i64 0] n) 3)) base w.heap.size n n (fun _=>0):=by
 refine⟨n,madeCells #[Value.int .i64 0] n,(0,0),by rw [fints_length],hb,heap_alloc_new w _,.inl rfl,by rw [fints_length]; exact Nat.le_refl _,hn,by simp [madeCells],?_⟩
 rw[made_ints,fints_length,List.take_of_length_le (by rw [fints_length]; exact Nat.le_refl _)]
end
def Came (w:World) (a:Option Addr) (n:Nat) (f:Nat→Int):Prop:=
 n=0∨∃ g off,a=some ⟨g,off,none⟩∧g < w.heap.size∧∀ j,j < n→w.cell? ⟨g,off+j,none⟩=some (.int .i64 (f j))
theorem Came.called {w w':World} {a:Option Addr} {n:Nat} {f:Nat→Int} (h:Came w a n f) (hb:Below w.heap.size w w'):Came w' a n f:=by
 rcases h with h | ⟨g,off,ha,hg,hc⟩
 ·exact .inl h
 ·exact .inr ⟨g,off,ha,Nat.lt_of_lt_of_le hg hb.size,fun j hj=>(hb.cell (p:=⟨g,off+j,none⟩) hg).trans (hc j hj)⟩
def SL (w:World) (base:Nat) (a:Option Addr) (n cap:Nat) (f:Nat→Int):Prop:=n=0∨∃ g,a=some ⟨g,0,none⟩∧IOwn w base g n cap f
theorem SL.came {w:World} {base:Nat} {a:Option Addr} {n cap:Nat} {f:Nat→Int} (h:SL w base a n cap f):Came w a n f:=by
 rcases h with h | ⟨g,rfl,h⟩
 ·exact .inl h
 ·exact .inr ⟨g,0,rfl,h.lt,fun j hj=>by rw [Nat.zero_add]; exact h.cell j hj⟩
theorem SL.called {w w':World} {base:Nat} {a:Option Addr} {n cap:Nat} {f:Nat→Int} (h:SL w base a n cap f) (hb:Below w.heap.size w w'):SL w' base a n cap f:=by
 rcases h with h | ⟨g,rfl,h⟩
 ·exact .inl h
 ·exact .inr ⟨g,rfl,h.called hb⟩
theorem IOwn.sl {w:World} {base g n cap:Nat} {f:Nat→Int} (h:IOwn w base g n cap f):SL w base (some ⟨g,0,none⟩) n cap f:=.inr ⟨g,rfl,h⟩
theorem Came.grown {w w':World} {a:Option Addr} {n B:Nat} {f:Nat→Int} {row:Option Nat} (h:Came w a n f) (hB:∀ g off,a=some ⟨g,off,none⟩→g < B) (hr:∀ k,row=some k→B≤k) (hg:w.grownBy w' row):Came w' a n f:=by
 rcases h with h | ⟨g,off,ha,hlt,hc⟩
 ·exact .inl h
 ·refine .inr ⟨g,off,ha,Nat.lt_of_lt_of_le hlt hg.size,fun j hj=>?_⟩
  have hne:some g≠row:=fun e=>by have h1:=hB g off ha; have h2:=hr g e.symm; omega
  have hb:=hg.block g hlt hne
  rw[← hc j hj]
  unfold World.cell?
  rw[hb]
end
section
open Go.RowKit Go.Joins
theorem info_i64:(Tryd.prog.info? 3).map (fun i=>(i.zero,i.size,i.bytes))=some (some (.int .i64 0),1,8):=by kernel_rfl
theorem make_ints (w:World) (n:Nat) (hn:n≤1048576):(Instr.makeSlice 24 (.int .i64 n) (.int .i64 n)).run Tryd.prog w=.ok (.slice (some ⟨w.heap.size,0,none⟩) n n) (w.alloc (.cells (madeCells #[Value.int .i64 0] n) 3)):=by
 obtain⟨i0,hi0,hz0,hz1,hz2⟩:=info_parts info_i64
 have h:=run_make (P:=Tryd.prog) w 24 3 i0 (.int .i64 0) Tryd.underlying24 hi0 hz0 .i64 .i64 n n (by omega) (by omega) (by rw [hz2]; omega) (by omega)
 rw[hz1,Int.toNat_natCast,Nat.mul_one] at h
 exact h
set_option maxHeartbeats 800000 in
theorem eqIntS_same (a b:Option Addr) (n c1 c2:Nat) (f:Nat→Int) (w:World) (ha:Came w a n f) (hb:Came w b n f) (hn:n≤1048576):
  Calls Tryd.prog 53 #[.slice a n c1,.slice b n c2] w fun e w'=>e=.returned (.bool true)∧Below w.heap.size w w':=by
 have HA:Hid (Came w a n f):=ha
 have HB:Hid (Came w b n f):=hb
 clear ha hb
 go_enter Tryd.func53,Tryd.ntmps53
 go_wp2_with fail
 go_loopw [5] (fun i w'=>∃ (j:Nat),j≤n∧i=.int .i64 j∧Hid (Below w.heap.size w w')) (fun i _=>n - (intOf i).toNat)
 case atStart=>exact⟨0,Nat.zero_le _,rfl,Below.refl _ _⟩
 case round=>
  obtain⟨j,hj,rfl,hBj⟩:=hrel
  by_cases hlt:j < n
  ·rcases HA.out with h0 | ⟨g,off,rfl,hg,hc⟩
   ·omega
   ·rcases HB.out with h0 | ⟨g',off',rfl,hg',hc'⟩
    ·omega
    ·have k0:wr.cell? ⟨g,off+j,none⟩=some (.int .i64 (f j)):=(hBj.out.cell (p:=⟨g,off+j,none⟩) hg).trans (hc j hlt)
     have k1:wr.cell? ⟨g',off'+j,none⟩=some (.int .i64 (f j)):=(hBj.out.cell (p:=⟨g',off'+j,none⟩) hg').trans (hc' j hlt)
     have l0:g < wr.heap.size:=Nat.lt_of_lt_of_le hg hBj.out.size
     have l1:g' < wr.heap.size:=Nat.lt_of_lt_of_le hg' hBj.out.size
     clear hc hc'
     go_wp2_with fail
     go_region
     all_goals
      go_wp2_with fail
      go_roundw
      case rel=>exact⟨j+1,by omega,by go_num,hBj.out.drew⟩
      case measure=>simp [intOf]; omega
  ·go_wp2_with fail
   go_ret
   exact⟨rfl,hBj.out⟩
theorem IOwn.came {w:World} {base g n cap:Nat} {f:Nat→Int} (h:IOwn w base g n cap f):Came w (some ⟨g,0,none⟩) n f:=
 .inr ⟨g,0,rfl,h.lt,fun j hj=>by rw [Nat.zero_add]; exact h.cell j hj⟩
end
section
open Go.RowKit Go.Joins
set_option maxHeartbeats 800000 in
theorem markIntS_own (base g n cap:Nat) (f:Nat→Int) (k:Int) (w:World) (hO:IOwn w base g n cap f) (hn:n≤1048576) (hk0:0≤k) (hk1:k≤1073741824):
  Calls Tryd.prog 54 #[.slice (some ⟨g,0,none⟩) n cap,.int .i64 k] w fun e w'=>e=.returned (.int .i64 (k+n))∧IOwn w' base g n cap (fun j=>k+j)∧w.grownBy w' (some g):=by
 have HO:Hid (IOwn w base g n cap f):=hO
 clear hO
 go_enter Tryd.func54,Tryd.ntmps54
 go_wp2_with fail
 go_loopw [1,5] (fun x i w'=>∃ (j:Nat) (h:Nat→Int),j≤n∧i=.int .i64 j∧x=.int .i64 (k+j)∧Hid (∀ i,i < j→h i=k+i)∧Hid (IOwn w' base g n cap h)∧Hid (w.grownBy w' (some g))) (fun _ i _=>n - (intOf i).toNat)
 case atStart=>exact⟨0,_,Nat.zero_le _,rfl,by simp,fun i hi=>absurd hi (Nat.not_lt_zero i),HO,⟨rfl,rfl,rfl,Nat.le_refl _,fun _ _ _=>rfl⟩⟩
 case round=>
  obtain⟨j,h,hj,rfl,rfl,hh,hOj,hBj⟩:=hrel
  by_cases hlt:j < n
  ·have c1:=hOj.out.cell j hlt
   have f1:=hOj.out.free j hlt
   have hl:=hOj.out.lt
   have HO1:Hid (IOwn (wr.setCell ⟨g,j,none⟩ (.int .i64 (k+j))) base g n cap (upd h j (k+j))):=hOj.out.set j hlt _
   have HB1:Hid (w.grownBy (wr.setCell ⟨g,j,none⟩ (.int .i64 (k+j))) (some g)):=⟨hBj.out.os,hBj.out.tape,hBj.out.output,by simpa using hBj.out.size,fun b hb hne=>(Below.heap_setCell wr ⟨g,j,none⟩ _ b (by simpa using hne)).trans (hBj.out.block b hb hne)⟩
   have HH:Hid (∀ i,i < j+1→upd h j (k+j) i=k+i):=by
    intro i hi
    unfold upd
    by_cases e:i=j
    ·rw[if_pos e,e]
    ·rw[if_neg e]; exact hh.out i (by omega)
   go_wp2_with fail
   go_roundw
   case rel=>exact⟨j+1,_,by omega,by go_num,by go_num,HH,HO1,HB1⟩
   case measure=>simp [intOf]; omega
  ·obtain rfl:j=n:=by omega
   go_wp2_with fail
   go_ret
   exact⟨rfl,hOj.out.congr hh.out,hBj.out⟩
theorem markIntS_none (a:Option Addr) (cap:Nat) (k:Int) (w:World):
  Calls Tryd.prog 54 #[.slice a 0 cap,.int .i64 k] w fun e w'=>e=.returned (.int .i64 k)∧w'=w:=by
 go_enter Tryd.func54,Tryd.ntmps54
 go_wp2_with fail
 go_loop [1,5] (fun x i=>x=.int .i64 k∧i=.int .i64 0) (fun _ _=>0)
 case atStart=>exact⟨rfl,rfl⟩
 case round=>
  obtain⟨rfl,rfl⟩:=hrel
  go_wp2_with fail
  go_ret
  exact⟨rfl,rfl⟩
set_option maxHeartbeats 800000 in
theorem heldIntS_same (a:Option Addr) (n cap:Nat) (k:Int) (w:World) (hC:Came w a n (fun j=>k+j)) (hn:n≤1048576) (hk0:0≤k) (hk1:k≤1073741824):
  Calls Tryd.prog 55 #[.slice a n cap,.int .i64 k] w fun e w'=>e=.returned (.int .i64 (k+n))∧Below w.heap.size w w':=by
 have HC:Hid (Came w a n (fun j=>k+j)):=hC
 clear hC
 go_enter Tryd.func55,Tryd.ntmps55
 go_wp2_with fail
 go_loopw [1,5] (fun x i w'=>∃ (j:Nat),j≤n∧i=.int .i64 j∧x=.int .i64 (k+j)∧Hid (Below w.heap.size w w')) (fun _ i _=>n - (intOf i).toNat)
 case atStart=>exact⟨0,Nat.zero_le _,rfl,by simp,Below.refl _ _⟩
 case round=>
  obtain⟨j,hj,rfl,rfl,hBj⟩:=hrel
  by_cases hlt:j < n
  ·rcases HC.out with h0 | ⟨g,off,rfl,hg,hc⟩
   ·omega
   ·have k0:wr.cell? ⟨g,off+j,none⟩=some (.int .i64 (k+j)):=(hBj.out.cell (p:=⟨g,off+j,none⟩) hg).trans (hc j hlt)
    have l0:g < wr.heap.size:=Nat.lt_of_lt_of_le hg hBj.out.size
    clear hc
    go_wp2_with fail
    go_roundw
    case rel=>exact⟨j+1,by omega,by go_num,by go_num,hBj.out⟩
    case measure=>simp [intOf]; omega
  ·obtain rfl:j=n:=by omega
   go_wp2_with fail
   go_ret
   exact⟨rfl,hBj.out⟩
end
section
namespace RastMath
def chan (c:Int):Int:=if c=0∨c=3 then 1 else if c=2 then 3 else if c=4 then 2 else if c=6 then 4 else 0
abbrev Five (d:Int):Prop:=d=1∨d=2∨d=4∨d=8∨d=16
abbrev DepthR (c d:Int):Prop:=(c=0∧Five d)∨(c=3∧Five d∧d≠16)∨((c=2∨c=4∨c=6)∧(d=8∨d=16))
abbrev SideR (n:Int):Prop:=1≤n∧n≤24
def rowB (w c d:Int):Int:=if SideR w∧DepthR c d then (w * chan c * d+7) / 8 else 0
theorem chan_range (c:Int):0≤chan c∧chan c≤4:=by
 unfold chan
 repeat' split
 all_goals omega
theorem chan_pos {c d:Int} (h:DepthR c d):1≤chan c:=by
 unfold chan
 rcases h with ⟨rfl,_⟩ | ⟨rfl,_⟩ | ⟨rfl | rfl | rfl,_⟩ <;> decide
theorem depth_five {c d:Int} (h:DepthR c d):Five d:=by
 rcases h with ⟨_,h⟩ | ⟨_,h,_⟩ | ⟨_,h⟩
 ·exact h
 ·exact h
 ·exact .inr (.inr (.inr h))
theorem five_range {d:Int} (h:Five d):1≤d∧d≤16:=by
 unfold Five at h
 omega
end RastMath
end
section
open Go.RowKit Go.Joins
set_option maxHeartbeats 1600000 in
theorem eqRaster_same (x0 x1 x2 x3:Int) (a b:Option Addr) (n c1 c2:Nat) (f:Nat→Int) (w:World) (ha:Came w a n f) (hb:Came w b n f) (hn:n≤1048576):
  Calls Tryd.prog 22 #[.agg #[.int .i64 x0,.int .i64 x1,.int .i64 x2,.int .i64 x3,.slice a n c1],.agg #[.int .i64 x0,.int .i64 x1,.int .i64 x2,.int .i64 x3,.slice b n c2]] w fun e w'=>e=.returned (.bool true)∧Below w.heap.size w w':=by
 have HA:=hid_of ha
 have HB:=hid_of hb
 clear ha hb
 have n0:(x0 != x0)=false:=by simp
 have n1:(x1 != x1)=false:=by simp
 have n2:(x2 != x2)=false:=by simp
 have n3:(x3 != x3)=false:=by simp
 go_enter Tryd.func22,Tryd.ntmps22
 go_wp2_with fail
 have HB0:Hid (Below w.heap.size w ((w.alloc (.cells #[.int .i64 x0,.int .i64 x1,.int .i64 x2,.int .i64 x3,.slice a n c1] 26)).alloc (.cells #[.int .i64 x0,.int .i64 x1,.int .i64 x2,.int .i64 x3,.slice b n c2] 26))):=bal (bstart _ _) _
 refine (eqIntS_same a b n c1 c2 f _ (HA.out.called HB0.out) (HB.out.called HB0.out) hn).mono ?_
 rintro e w1 ⟨rfl,hB1⟩
 have HB1:=hid_of (bnext HB0.out hB1)
 clear hB1
 go_wp2_with fail
 go_ret
 exact⟨rfl,HB1.out⟩
end
section
open Go.RowKit Go.Joins
structure Ras where
 x0:Int
 x1:Int
 x2:Int
 x3:Int
 n:Nat
 f:Nat→Int
abbrev rasA (r:Ras) (a:Option Addr) (c:Nat):Value:=.agg #[.int .i64 r.x0,.int .i64 r.x1,.int .i64 r.x2,.int .i64 r.x3,.slice a r.n c]
def Ras.same (r s:Ras):Prop:=r.x0=s.x0∧r.x1=s.x1∧r.x2=s.x2∧r.x3=s.x3∧r.n=s.n∧∀ i,i < r.n→r.f i=s.f i
theorem Ras.same.refl (r:Ras):r.same r:=⟨rfl,rfl,rfl,rfl,rfl,fun _ _=>rfl⟩
theorem Ras.same.symm {r s:Ras} (h:r.same s):s.same r:=⟨h.1.symm,h.2.1.symm,h.2.2.1.symm,h.2.2.2.1.symm,h.2.2.2.2.1.symm,fun i hi=>(h.2.2.2.2.2 i (by rw [h.2.2.2.2.1]; exact hi)).symm⟩
theorem Ras.same.trans {r s t:Ras} (h:r.same s) (k:s.same t):r.same t:=⟨h.1.trans k.1,h.2.1.trans k.2.1,h.2.2.1.trans k.2.2.1,h.2.2.2.1.trans k.2.2.2.1,h.2.2.2.2.1.trans k.2.2.2.2.1,fun i hi=>(h.2.2.2.2.2 i hi).trans (k.2.2.2.2.2 i (by rw [← h.2.2.2.2.1]; exact hi))⟩
def RasAt (w:World) (g o:Nat) (r:Ras) (a:Option Addr) (c:Nat):Prop:=
 w.cell? ⟨g,o,none⟩=some (.int .i64 r.x0)∧w.cell? ⟨g,o+1,none⟩=some (.int .i64 r.x1)∧w.cell? ⟨g,o+2,none⟩=some (.int .i64 r.x2)∧w.cell? ⟨g,o+3,none⟩=some (.int .i64 r.x3)∧w.cell? ⟨g,o+4,none⟩=some (.slice a r.n c)
theorem RasAt.same {w:World} {g o:Nat} {r s:Ras} {a:Option Addr} {c:Nat} (h:RasAt w g o r a c) (e:r.same s):RasAt w g o s a c:=by
 obtain⟨e0,e1,e2,e3,e4,_⟩:=e
 unfold RasAt at h ⊢
 rw[← e0,← e1,← e2,← e3,← e4]
 exact h
theorem Came.congr14 {w:World} {a:Option Addr} {n:Nat} {f f':Nat→Int} (h:Came w a n f) (e:∀ i,i < n→f i=f' i):Came w a n f':=by
 rcases h with h | ⟨g,off,ha,hg,hc⟩
 ·exact .inl h
 ·exact .inr ⟨g,off,ha,hg,fun j hj=>by rw [← e j hj]; exact hc j hj⟩
theorem Came.same {w:World} {a:Option Addr} {r s:Ras} (h:Came w a r.n r.f) (e:r.same s):Came w a s.n s.f:=by
 rw[← e.2.2.2.2.1]
 exact h.congr14 e.2.2.2.2.2
def RCame (w:World) (a:Option Addr) (m:Nat) (R:Nat→Ras):Prop:=
 m=0∨∃ (g off:Nat) (A:Nat→Option Addr) (C:Nat→Nat),a=some ⟨g,off,none⟩∧g < w.heap.size∧∀ j,j < m→RasAt w g (off+j * 5) (R j) (A j) (C j)∧Came w (A j) (R j).n (R j).f∧(R j).n≤C j∧C j≤maxLen
theorem RasAt.keep {w w':World} {g o:Nat} {r:Ras} {a:Option Addr} {c:Nat} (h:RasAt w g o r a c) (hb:w'.heap[g]?=w.heap[g]?):RasAt w' g o r a c:=by
 have e:∀ k,w'.cell? ⟨g,k,none⟩=w.cell? ⟨g,k,none⟩:=fun k=>World.cell?_of_block (a:=⟨g,k,none⟩) hb
 unfold RasAt at h ⊢
 simp only [e]
 exact h
theorem RCame.called {w w':World} {a:Option Addr} {m:Nat} {R:Nat→Ras} (h:RCame w a m R) (hb:Below w.heap.size w w'):RCame w' a m R:=by
 rcases h with h | ⟨g,off,A,C,ha,hg,hc⟩
 ·exact .inl h
 ·exact .inr ⟨g,off,A,C,ha,Nat.lt_of_lt_of_le hg hb.size,fun j hj=>⟨(hc j hj).1.keep (hb.block g hg),(hc j hj).2.1.called hb,(hc j hj).2.2⟩⟩
theorem RCame.congr {w:World} {a:Option Addr} {m:Nat} {R S:Nat→Ras} (h:RCame w a m R) (e:∀ j,j < m→(R j).same (S j)):RCame w a m S:=by
 rcases h with h | ⟨g,off,A,C,ha,hg,hc⟩
 ·exact .inl h
 ·exact .inr ⟨g,off,A,C,ha,hg,fun j hj=>⟨(hc j hj).1.same (e j hj),(hc j hj).2.1.same (e j hj),by rw [← (e j hj).2.2.2.2.1]; exact (hc j hj).2.2⟩⟩
def RowOwn (w:World) (base:Nat) (a:Option Addr) (G n c:Nat) (f:Nat→Int):Prop:=n≤c∧c≤maxLen∧(n=0∨a=some ⟨G,0,none⟩∧IOwn w base G n c f)
theorem RowOwn.came {w:World} {base:Nat} {a:Option Addr} {G n c:Nat} {f:Nat→Int} (h:RowOwn w base a G n c f):Came w a n f:=by
 obtain⟨_,_,q⟩:=h
 rcases q with q | ⟨rfl,q⟩
 ·exact .inl q
 ·exact q.sl.came
theorem RowOwn.keep {w w':World} {base:Nat} {a:Option Addr} {G n c:Nat} {f:Nat→Int} (h:RowOwn w base a G n c f) (hk:0 < n→w'.heap[G]?=w.heap[G]?):RowOwn w' base a G n c f:=by
 refine⟨h.1,h.2.1,?_⟩
 rcases Nat.eq_zero_or_pos n with e | e
 ·exact .inl e
 ·rcases h.2.2 with h | ⟨ha,h⟩
  ·exact .inl h
  ·exact .inr ⟨ha,h.keep (hk e)⟩
theorem RowOwn.lt {w:World} {base:Nat} {a:Option Addr} {G n c:Nat} {f:Nat→Int} (h:RowOwn w base a G n c f) (hn:0 < n):G < w.heap.size∧base≤G:=by
 rcases h.2.2 with h | ⟨_,h⟩
 ·omega
 ·exact⟨h.lt,h.base_le⟩
def HeadAt (cur:Array Value) (o:Nat) (r:Ras) (a:Option Addr) (c:Nat):Prop:=
 cur[o]?=some (.int .i64 r.x0)∧cur[o+1]?=some (.int .i64 r.x1)∧cur[o+2]?=some (.int .i64 r.x2)∧cur[o+3]?=some (.int .i64 r.x3)∧cur[o+4]?=some (.slice a r.n c)
def ROwnA (w:World) (base g m:Nat) (R:Nat→Ras) (A:Nat→Option Addr) (G C:Nat→Nat):Prop:=
 base≤g∧(∃ cur,w.heap[g]?=some (.cells cur 26 (0,0))∧m * 5≤cur.size∧∀ j,j < m→HeadAt cur (j * 5) (R j) (A j) (C j))∧
  (∀ j,j < m→RowOwn w base (A j) (G j) (R j).n (C j) (R j).f)∧(∀ j,j < m→0 < (R j).n→G j≠g)∧∀ i j,i < m→j < m→i≠j→0 < (R i).n→0 < (R j).n→G i≠G j
def ROwn (w:World) (base g m:Nat) (R:Nat→Ras):Prop:=∃ A G C,ROwnA w base g m R A G C
section
variable {w w':World} {base g m:Nat} {R S:Nat→Ras} {A:Nat→Option Addr} {G C:Nat→Nat}
theorem ROwnA.lt (h:ROwnA w base g m R A G C):g < w.heap.size:=by
 obtain⟨_,⟨cur,hc,_⟩,_⟩:=h
 exact block_lt hc
theorem ROwn.lt (h:ROwn w base g m R):g < w.heap.size:=by
 obtain⟨A,G,C,h⟩:=h
 exact h.lt
theorem ROwnA.keep (h:ROwnA w base g m R A G C) (hk:∀ b,base≤b→b < w.heap.size→w'.heap[b]?=w.heap[b]?):ROwnA w' base g m R A G C:=by
 have hg:=h.lt
 obtain⟨h1,⟨cur,hc,h2,h3⟩,h4,h5,h6⟩:=h
 exact⟨h1,⟨cur,(hk g h1 hg).trans hc,h2,h3⟩,fun j hj=>(h4 j hj).keep (fun hn=>hk _ ((h4 j hj).lt hn).2 ((h4 j hj).lt hn).1),h5,h6⟩
theorem ROwn.called (h:ROwn w base g m R) (hb:Below w.heap.size w w'):ROwn w' base g m R:=by
 obtain⟨A,G,C,h⟩:=h
 exact⟨A,G,C,h.keep (fun b _ hb'=>hb.block b hb')⟩
theorem ROwnA.at_ (h:ROwnA w base g m R A G C) (j:Nat) (hj:j < m):RasAt w g (j * 5) (R j) (A j) (C j):=by
 obtain⟨_,⟨cur,hc,_,h3⟩,_⟩:=h
 have e:∀ k,w.cell? ⟨g,k,none⟩=cur[k]?:=fun k=>by simp [World.cell?,hc]
 unfold RasAt
 simp only [e]
 exact h3 j hj
theorem ROwnA.free (h:ROwnA w base g m R A G C) (k:Nat):w.frozen? ⟨g,k,none⟩=false:=by
 obtain⟨_,⟨cur,hc,_⟩,_⟩:=h
 simp[World.frozen?,hc]
theorem ROwn.came (h:ROwn w base g m R):RCame w (some ⟨g,0,none⟩) m R:=by
 obtain⟨A,G,C,h⟩:=h
 refine .inr ⟨g,0,A,C,rfl,h.lt,fun j hj=>⟨by rw [Nat.zero_add]; exact h.at_ j hj,(h.2.2.1 j hj).came,(h.2.2.1 j hj).1,(h.2.2.1 j hj).2.1⟩⟩
theorem ROwn.mono {b:Nat} (h:ROwn w base g m R) (hb:b≤base):ROwn w b g m R:=by
 obtain⟨A,G,C,h1,h2,h3,h4⟩:=h
 refine⟨A,G,C,Nat.le_trans hb h1,h2,fun j hj=>⟨(h3 j hj).1,(h3 j hj).2.1,?_⟩,h4⟩
 rcases (h3 j hj).2.2 with h | ⟨ha,h⟩
 ·exact .inl h
 ·exact .inr ⟨ha,h.mono hb⟩
end
def RSL (w:World) (base:Nat) (a:Option Addr) (m:Nat) (R:Nat→Ras):Prop:=m=0∨∃ g,a=some ⟨g,0,none⟩∧ROwn w base g m R
theorem RSL.came {w:World} {base:Nat} {a:Option Addr} {m:Nat} {R:Nat→Ras} (h:RSL w base a m R):RCame w a m R:=by
 rcases h with h | ⟨g,rfl,h⟩
 ·exact .inl h
 ·exact h.came
theorem RSL.called {w w':World} {base:Nat} {a:Option Addr} {m:Nat} {R:Nat→Ras} (h:RSL w base a m R) (hb:Below w.heap.size w w'):RSL w' base a m R:=by
 rcases h with h | ⟨g,rfl,h⟩
 ·exact .inl h
 ·exact .inr ⟨g,rfl,h.called hb⟩
end
section
theorem if_wanted {c A E:Prop} [Decidable c] (hc:c) (h:A):if c then A else E:=by rw [if_pos hc]; exact h
theorem wanted_none {o:Oper} {y:Nat→Option Bool} (h:o.guard=none):Region.wanted o y=true:=by simp [Region.wanted,h]
end
end Go.Proofs.YtcbbcadfolgioaaDoor
