/-
  Texts of the proof, put together.
-/
import Derived.Test.YtklpiihnbokkkaaGreatDoorRows
import Derived.Test.YtklpiihnbokkkaaGreatDoorDk01
import Derived.Test.YtklpiihnbokkkaaGreatDoorDk02
import Derived.Test.YtklpiihnbokkkaaGreatDoorDk05
import Derived.Test.YtklpiihnbokkkaaGreatDoorDk03
import Derived.WalkKit
import Derived.ProofKit
import Derived.WalkLawsBesides
import Derived.Below
import Derived.Lib.SmallJoins
import Derived.Deep.LoopGhost
import Derived.RangeFuncBox
import Derived.RangeFuncLeaves
import Derived.RangeFuncNested
import Derived.RangeFuncBound
import Derived.RangeFuncCalls
import Derived.Shelf.Abstract
import Derived.OwnWalkIn
import Derived.TacticsInMore
import Derived.LoopNIn
import Derived.LoopIn
import Derived.Shelf.RegionOpen
import Derived.RegionTactic
import Derived.BigRegion
import Derived.BigQuiet
import Derived.OrdersIn
import Derived.OrdersHeld
namespace Go.Proofs.YtklpiihnbokkkaaGreatDoor
open Go.RowKit Go.Joins TokMath
theorem TCame.grown {w w':World} {a:Option Addr} {n B:Nat} {F:Nat→Tok} {row:Option Nat} (h:TCame w a n F) (hB:∀ g off,a=some ⟨g,off,none⟩→g < B) (hr:∀ k,row=some k→B≤k) (hg:w.grownBy w' row):TCame w' a n F:=by
 rcases h with h | ⟨g,off,ha,hlt,hc⟩
 ·exact .inl h
 ·have hne:some g≠row:=fun e=>by have h1:=hB g off ha; have h2:=hr g e.symm; omega
  have hb:=hg.block g hlt hne
  exact .inr ⟨g,off,ha,Nat.lt_of_lt_of_le hlt hg.size,fun j hj=>⟨(World.cell?_of_block (w:=w) hb).trans (hc j hj).1,(World.cell?_of_block (w:=w) hb).trans (hc j hj).2.1,(World.cell?_of_block (w:=w) hb).trans (hc j hj).2.2⟩⟩
theorem TOwn.free {w:World} {base g n:Nat} {F:Nat→Tok} (h:TOwn w base g n F) (k:Nat):w.frozen? ⟨g,k,none⟩=false:=by
 obtain⟨_,cur,h2,_⟩:=h
 simp[World.frozen?,h2]
def updT (F:Nat→Tok) (j:Nat) (t:Tok):Nat→Tok:=fun i=>if i=j then t else F i
theorem TOwn.set {w:World} {base g n:Nat} {F:Nat→Tok} (h:TOwn w base g n F) (j:Nat) (hj:j < n) (x y z:Int):TOwn (((w.setCell ⟨g,j * 3,none⟩ (.int .i64 x)).setCell ⟨g,j * 3+1,none⟩ (.int .i64 y)).setCell ⟨g,j * 3+2,none⟩ (.int .i64 z)) base g n (updT F j (x,y,z)):=by
 obtain⟨h1,cur,h2,h3,h4⟩:=h
 refine⟨h1,((cur.setIfInBounds (j * 3) (.int .i64 x)).setIfInBounds (j * 3+1) (.int .i64 y)).setIfInBounds (j * 3+2) (.int .i64 z),?_,by simpa using h3,fun i hi=>?_⟩
 ·simp[World.setCell,Array.getElem?_modify,h2]
 ·obtain⟨k1,k2,k3⟩:=h4 i hi
  unfold updT
  by_cases e:i=j
  ·subst e
   rw[if_pos rfl]
   refine⟨?_,?_,?_⟩
   ·rw[Array.getElem?_setIfInBounds_ne (by omega),Array.getElem?_setIfInBounds_ne (by omega),Array.getElem?_setIfInBounds_self_of_lt (by omega)]
   ·rw[Array.getElem?_setIfInBounds_ne (by omega),Array.getElem?_setIfInBounds_self_of_lt (by simp; omega)]
   ·rw[Array.getElem?_setIfInBounds_self_of_lt (by simp; omega)]
  ·rw[if_neg e]
   refine⟨?_,?_,?_⟩
   ·rw[Array.getElem?_setIfInBounds_ne (by omega),Array.getElem?_setIfInBounds_ne (by omega),Array.getElem?_setIfInBounds_ne (by omega)]; exact k1
   ·rw[Array.getElem?_setIfInBounds_ne (by omega),Array.getElem?_setIfInBounds_ne (by omega),Array.getElem?_setIfInBounds_ne (by omega)]; exact k2
   ·rw[Array.getElem?_setIfInBounds_ne (by omega),Array.getElem?_setIfInBounds_ne (by omega),Array.getElem?_setIfInBounds_ne (by omega)]; exact k3
theorem TOwn.congr {w:World} {base g n:Nat} {F G:Nat→Tok} (h:TOwn w base g n F) (e:∀ j,j < n→F j=G j):TOwn w base g n G:=by
 obtain⟨h1,cur,h2,h3,h4⟩:=h
 exact⟨h1,cur,h2,h3,fun j hj=>by rw [← e j hj]; exact h4 j hj⟩
theorem TOwn.grown {w w':World} {base g n:Nat} {F:Nat→Tok} {row:Option Nat} (h:TOwn w base g n F) (hg:w.grownBy w' row) (hne:row≠some g):TOwn w' base g n F:=h.keep (hg.block g h.lt (Ne.symm hne))
def TSL (w:World) (base:Nat) (a:Option Addr) (n:Nat) (F:Nat→Tok):Prop:=n=0∨∃ g,a=some ⟨g,0,none⟩∧TOwn w base g n F
theorem TSL.came {w:World} {base:Nat} {a:Option Addr} {n:Nat} {F:Nat→Tok} (h:TSL w base a n F):TCame w a n F:=by
 rcases h with h | ⟨g,rfl,h⟩
 ·exact .inl h
 ·exact h.came
theorem TSL.called {w w':World} {base:Nat} {a:Option Addr} {n:Nat} {F:Nat→Tok} (h:TSL w base a n F) (hb:Below w.heap.size w w'):TSL w' base a n F:=by
 rcases h with h | ⟨g,rfl,h⟩
 ·exact .inl h
 ·exact .inr ⟨g,rfl,h.called hb⟩
theorem tsl_of_own {w:World} {S n:Nat} {v:Value} {L:List Tok} (h:w.ownsRow S 105 3 v n (tcells L)) (hn:n=L.length):∃ a c,v=.slice a L.length c∧L.length≤c∧TSL w S a L.length (fun j=>L.getD j (0,0,0)):=by
 subst hn
 rcases h.2 with ⟨rfl,h0⟩ | ⟨g,cap,cur,rfl,hb,hg,hc,hm,hs,ht⟩
 ·exact⟨none,0,by rw [h0],by omega,.inl h0⟩
 ·refine⟨_,cap,rfl,hc,.inr ⟨g,rfl,hb,cur,hg,by omega,fun j hj=>?_⟩⟩
  have q:=tcells_get L j hj
  have k1:=h.cellAt (j * 3) (by omega)
  have k2:=h.cellAt (j * 3+1) (by omega)
  have k3:=h.cellAt (j * 3+2) (by omega)
  rw[cell_of_block hg] at k1 k2 k3
  rw[k1,k2,k3]
  exact q
end Go.Proofs.YtklpiihnbokkkaaGreatDoor

namespace Go.Proofs.YtklpiihnbokkkaaGreatDoor.CheapMath
open TokMath StepMath SearchMath
def costT (t:Tok):Int:=if t.2.1=0 then (if t.1 < 144 then 8 else 9) else (if (LengthCodeOf t.2.1).1 < 280 then 7 else 8)+(LengthCodeOf t.2.1).2.1+5+(DistCodeOf t.2.2).2.1
theorem cost_byte (x z:Int):costT (x,0,z)=if x < 144 then 8 else 9:=rfl
theorem cost_range (t:Tok):0≤costT t∧costT t≤31:=by
 unfold costT
 split
 ·split <;> omega
 ·have h1:0≤(LengthCodeOf t.2.1).2.1∧(LengthCodeOf t.2.1).2.1≤5:=by
   by_cases h:3≤t.2.1∧t.2.1≤258
   ·have:=len_back h.1 h.2
    exact⟨this.2.2.2.2.2.1,this.2.2.2.2.2.2⟩
   ·unfold LengthCodeOf
    rw[if_neg h]
    exact⟨by show (0:Int)≤0; omega,by show (0:Int)≤5; omega⟩
  have h2:0≤(DistCodeOf t.2.2).2.1∧(DistCodeOf t.2.2).2.1≤13:=by
   by_cases h:1≤t.2.2∧t.2.2≤32768
   ·have:=dist_back h.1 h.2
    exact⟨this.2.2.2.2.2.1,this.2.2.2.2.2.2⟩
   ·unfold DistCodeOf
    rw[if_neg h]
    exact⟨by show (0:Int)≤0; omega,by show (0:Int)≤13; omega⟩
  split <;> omega
section
variable (f:Nat→Nat) (N chain:Nat)
def pickK (C:Nat→Int) (at' d:Nat) (acc:Int×Tok):Nat→Int×Tok
 | 0=>acc
 | m+1=>if costT (0,((3+m:Nat):Int),(d:Int))+C (at'+(3+m)) < (pickK C at' d acc m).1 then (costT (0,((3+m:Nat):Int),(d:Int))+C (at'+(3+m)),(0,((3+m:Nat):Int),(d:Int))) else pickK C at' d acc m
def entry (C:Nat→Int) (at':Nat):Int×Tok:=pickK C at' (bestM f N at' chain).2 (costT ((f at':Int),0,0)+C (at'+1),((f at':Int),0,0)) ((bestM f N at' chain).1 - 2)
def tab:Nat→Nat→Int×Tok
 | 0,_=>(0,(0,0,0))
 | m+1,i=>if i=N - (m+1) then entry f N chain (fun j=>(tab m j).1) i else tab m i
def costAt (i:Nat):Int:=(tab f N chain N i).1
def takeAt (i:Nat):Tok:=(tab f N chain N i).2
end
section
variable {f:Nat→Nat} {N chain:Nat}
theorem pickK_congr {C C':Nat→Int} {at' d:Nat} {acc:Int×Tok}:∀ m,(∀ j,j < m→C (at'+(3+j))=C' (at'+(3+j)))→pickK C at' d acc m=pickK C' at' d acc m
 | 0,_=>rfl
 | m+1,h=>by
  unfold pickK
  rw[pickK_congr m (fun j hj=>h j (by omega)),h m (Nat.lt_succ_self m)]
theorem entry_congr {C C':Nat→Int} {at':Nat} (h:∀ j,at' < j→C j=C' j):entry f N chain C at'=entry f N chain C' at':=by
 unfold entry
 rw[h (at'+1) (by omega),pickK_congr _ (fun j _=>h _ (by omega))]
theorem tab_past:∀ m i,N≤i→m≤N→tab f N chain m i=(0,(0,0,0))
 | 0,_,_,_=>rfl
 | m+1,i,h,hm=>by
  unfold tab
  rw[if_neg (by omega)]
  exact tab_past m i h (by omega)
theorem tab_stay:∀ d m i,N - m≤i→m+d≤N→tab f N chain (m+d) i=tab f N chain m i
 | 0,_,_,_,_=>rfl
 | d+1,m,i,h,hm=>by
  show (if i=N - (m+d+1) then entry f N chain (fun j=>(tab f N chain (m+d) j).1) i else tab f N chain (m+d) i)=_
  rw[if_neg (by omega)]
  exact tab_stay d m i h (by omega)
theorem tab_done {m i:Nat} (h:N - m≤i) (hm:m≤N):tab f N chain N i=tab f N chain m i:=by
 obtain⟨d,rfl⟩:=Nat.exists_eq_add_of_le hm
 exact tab_stay d m i h (Nat.le_refl _)
theorem tab_entry {i:Nat} (h:i < N):tab f N chain N i=entry f N chain (costAt f N chain) i:=by
 have h1:tab f N chain N i=tab f N chain (N - 1 - i+1) i:=tab_done (by omega) (by omega)
 rw[h1]
 show (if i=N - (N - 1 - i+1) then entry f N chain (fun j=>(tab f N chain (N - 1 - i) j).1) i else _)=_
 rw[if_pos (by omega)]
 exact entry_congr (fun j hj=>by
  show (tab f N chain (N - 1 - i) j).1=(tab f N chain N j).1
  rw[tab_done (m:=N - 1 - i) (by omega) (by omega)])
theorem cost_past {i:Nat} (h:N≤i):costAt f N chain i=0:=by
 unfold costAt
 rw[tab_past N i h (Nat.le_refl _)]
def Opt (f:Nat→Nat) (N chain at':Nat) (t:Tok):Prop:=t=((f at':Int),0,0)∨∃ k,3≤k∧k≤(bestM f N at' chain).1∧t=(0,(k:Int),((bestM f N at' chain).2:Int))
theorem opt_fine {at':Nat} {t:Tok} (h:Opt f N chain at' t):Fine f N at' t:=by
 rcases h with rfl | ⟨k,h3,hk,rfl⟩
 ·exact .inl rfl
 ·have hr:=best_rep (f:=f) (N:=N) (at':=at') (chain:=chain) (by omega)
  obtain⟨h1,h2,h4,h5⟩:=hr
  exact .inr ⟨k,_,rfl,⟨h3,by omega⟩,h2,by omega,fun i hi=>h5 i (by omega)⟩
theorem pickK_is (C:Nat→Int) (at' d:Nat) (acc:Int×Tok):∀ m,pickK C at' d acc m=acc∨∃ k,3≤k∧k < 3+m∧pickK C at' d acc m=(costT (0,(k:Int),(d:Int))+C (at'+k),(0,(k:Int),(d:Int)))
 | 0=>.inl rfl
 | m+1=>by
  unfold pickK
  split
  ·exact .inr ⟨3+m,by omega,by omega,rfl⟩
  ·rcases pickK_is C at' d acc m with h | ⟨k,h1,h2,h⟩
   ·exact .inl h
   ·exact .inr ⟨k,h1,by omega,h⟩
theorem pickK_le (C:Nat→Int) (at' d:Nat) (acc:Int×Tok):∀ m,(pickK C at' d acc m).1≤acc.1∧∀ k,3≤k→k < 3+m→(pickK C at' d acc m).1≤costT (0,(k:Int),(d:Int))+C (at'+k)
 | 0=>⟨Int.le_refl _,fun k h1 h2=>by omega⟩
 | m+1=>by
  obtain⟨h1,h2⟩:=pickK_le C at' d acc m
  unfold pickK
  split
  ·rename_i q
   refine⟨?_,fun k k1 k2=>?_⟩
   ·show costT (0,((3+m:Nat):Int),(d:Int))+C (at'+(3+m))≤acc.1
    omega
   ·show costT (0,((3+m:Nat):Int),(d:Int))+C (at'+(3+m))≤_
    rcases Nat.lt_or_ge k (3+m) with k3 | k3
    ·have:=h2 k k1 k3
     omega
    ·have:k=3+m:=by omega
     subst this
     exact Int.le_refl _
  ·rename_i q
   refine⟨h1,fun k k1 k2=>?_⟩
   rcases Nat.lt_or_ge k (3+m) with k3 | k3
   ·exact h2 k k1 k3
   ·have:k=3+m:=by omega
    subst this
    omega
theorem take_is {i:Nat} (h:i < N):Opt f N chain i (takeAt f N chain i)∧costAt f N chain i=costT (takeAt f N chain i)+costAt f N chain (i+sizeT (takeAt f N chain i)):=by
 have e:=tab_entry (f:=f) (chain:=chain) h
 unfold entry at e
 have e1:costAt f N chain i=(tab f N chain N i).1:=rfl
 have e2:takeAt f N chain i=(tab f N chain N i).2:=rfl
 rcases pickK_is (costAt f N chain) i (bestM f N i chain).2 (costT ((f i:Int),0,0)+costAt f N chain (i+1),((f i:Int),0,0)) ((bestM f N i chain).1 - 2) with q | ⟨k,h1,h2,q⟩
 ·rw[q] at e
  rw[e1,e2,e]
  exact⟨.inl rfl,rfl⟩
 ·rw[q] at e
  rw[e1,e2,e]
  refine⟨.inr ⟨k,h1,by omega,rfl⟩,?_⟩
  show costT (0,(k:Int),((bestM f N i chain).2:Int))+costAt f N chain (i+k)=costT (0,(k:Int),((bestM f N i chain).2:Int))+costAt f N chain (i+sizeT (0,(k:Int),((bestM f N i chain).2:Int)))
  rw[size_rep _ _ (by omega)]
theorem take_least {i:Nat} (h:i < N) {t:Tok} (ht:Opt f N chain i t):costAt f N chain i≤costT t+costAt f N chain (i+sizeT t):=by
 have e:=tab_entry (f:=f) (chain:=chain) h
 unfold entry at e
 have e1:costAt f N chain i=(tab f N chain N i).1:=rfl
 obtain⟨q1,q2⟩:=pickK_le (costAt f N chain) i (bestM f N i chain).2 (costT ((f i:Int),0,0)+costAt f N chain (i+1),((f i:Int),0,0)) ((bestM f N i chain).1 - 2)
 rw[e1,e]
 rcases ht with rfl | ⟨k,h1,h2,rfl⟩
 ·exact q1
 ·rw[size_rep _ _ (by omega)]
  exact q2 k h1 (by omega)
theorem opt_size {c:Nat→Tok} (hc:∀ i,i < N→Opt f N chain i (c i)):∀ i,i < N→1≤sizeT (c i):=fun i hi=>(fine_size (opt_fine (hc i hi)) hi).1
theorem take_opt:∀ i,i < N→Opt f N chain i (takeAt f N chain i):=fun _ hi=>(take_is hi).1
theorem bytes_cost:∀ m at',N - at'=m→costAt f N chain at'≤9 * ((N - at':Nat):Int):=by
 intro m
 induction m with
 | zero=>
  intro at' hm
  rw[cost_past (by omega)]
  omega
 | succ m ih=>
  intro at' hm
  have h1:=take_least (f:=f) (chain:=chain) (show at' < N by omega) (.inl rfl)
  have h2:=ih (at'+1) (by omega)
  rw[size_byte,cost_byte] at h1
  split at h1 <;> omega
theorem take_fine {i:Nat} (h:i < N):Fine f N i (takeAt f N chain i):=opt_fine (take_opt i h)
theorem cost_small:∀ m at',N - at'=m→0≤costAt f N chain at'∧costAt f N chain at'≤9 * (m:Int):=by
 intro m
 induction m using Nat.strongRecOn with
 | _ m ih=>
  intro at' hm
  refine⟨?_,by have:=bytes_cost (f:=f) (chain:=chain) m at' hm; omega⟩
  by_cases h:at' < N
  ·obtain⟨h1,h2⟩:=take_is (f:=f) (chain:=chain) h
   have h3:=opt_size (take_opt (f:=f) (N:=N) (chain:=chain)) at' h
   have h4:=(ih (N - (at'+sizeT (takeAt f N chain at'))) (by omega) (at'+sizeT (takeAt f N chain at')) rfl).1
   have h5:=(cost_range (takeAt f N chain at')).1
   omega
  ·rw[cost_past (by omega)]
   exact Int.le_refl _
end
end Go.Proofs.YtklpiihnbokkkaaGreatDoor.CheapMath

namespace Go.Proofs.YtklpiihnbokkkaaGreatDoor
open Go.RowKit TokMath SearchMath
def txt (s:ByteArray) (i:Nat):Nat:=(s.data[i]?.getD 0).toNat
theorem txt_lt (s:ByteArray) (i:Nat):txt s i < 256:=UInt8.toNat_lt _
theorem txt_get (s:ByteArray) (i:Nat) (h:i < s.size):(s[i]'h).toNat=txt s i:=by
 unfold txt
 have h':i < s.data.size:=h
 rw[Array.getElem?_eq_getElem h']
 rfl
end Go.Proofs.YtklpiihnbokkkaaGreatDoor

namespace Go.Proofs.YtklpiihnbokkkaaGreatDoor
open Go.RowKit TokMath SearchMath CheapMath
def bestOf (s:ByteArray) (t c:Int):Nat×Nat:=if s.size≤2600∧(0≤t∧t < (s.size:Int))∧(1≤c∧c≤64) then bestM (txt s) s.size t.toNat c.toNat else (0,0)
def WayRight (s:ByteArray) (c:Int):Prop:=s.size≤2600∧1≤c∧c≤64
def greedyL (s:ByteArray) (c:Int):List Tok:=wayL (greedyC (txt s) s.size c.toNat) s.size 0
def lazyL (s:ByteArray) (c:Int):List Tok:=wayL (lazyC (txt s) s.size c.toNat) s.size 0
def cheapL (s:ByteArray) (c:Int):List Tok:=wayL (takeAt (txt s) s.size c.toNat) s.size 0
def WayPost (L:List Tok) (w:World) (e:Ending) (w':World):Prop:=∃ (a:Option Addr) (cap:Nat),e=.returned (.tuple #[.slice a L.length cap,.bool true])∧TSL w' w.heap.size a L.length (fun j=>L.getD j (0,0,0))∧L.length≤cap∧Below w.heap.size w w'
def WayNone (w:World) (e:Ending) (w':World):Prop:=∃ (a:Option Addr) (cap:Nat),e=.returned (.tuple #[.slice a 0 cap,.bool false])∧(∀ g off,a=some ⟨g,off,none⟩→g < w'.heap.size)∧Below w.heap.size w w'
def WayAnswer (F : Nat) (way : ByteArray → Int → List Tok) : Prop := ∀ (s : ByteArray) (c : Int) (w : World), s.size ≤ 1048576 → (Lit.int .i64 c).wf = true →
    (WayRight s c → Calls Tryz.prog F #[.string s, .int .i64 c] w (WayPost (way s c) w)) ∧ (¬ WayRight s c → Calls Tryz.prog F #[.string s, .int .i64 c] w (WayNone w))
def GreedyAnswer:Prop:=WayAnswer 51 greedyL
def LazyAnswer:Prop:=WayAnswer 53 lazyL
def CheapAnswer:Prop:=WayAnswer 55 cheapL
theorem greedyL_length (s:ByteArray) (c:Int):(greedyL s c).length≤s.size:=by
 have:=way_length (c:=greedyC (txt s) s.size c.toNat) (N:=s.size) (fun i hi=>(fine_size (greedy_fine _ _ _ i) hi).1) s.size 0 rfl
 exact this
theorem lazyL_length (s:ByteArray) (c:Int):(lazyL s c).length≤s.size:=by
 have:=way_length (c:=lazyC (txt s) s.size c.toNat) (N:=s.size) (fun i hi=>(fine_size (lazy_fine _ _ _ i) hi).1) s.size 0 rfl
 exact this
theorem cheapL_length (s:ByteArray) (c:Int):(cheapL s c).length≤s.size:=by
 have:=way_length (c:=takeAt (txt s) s.size c.toNat) (N:=s.size) (fun i hi=>(fine_size (take_fine hi) hi).1) s.size 0 rfl
 exact this
end Go.Proofs.YtklpiihnbokkkaaGreatDoor

namespace Go.Proofs.YtklpiihnbokkkaaGreatDoor
open Go.RowKit TokMath SearchMath CheapMath DeflMath
def deflT (t:ByteArray) (lv:Nat):ByteArray:=
 if lv=0 then blkS (storedOut ⟨#[]⟩ 0 t true)
 else if lv=1 then blkS (fixedOut ⟨#[]⟩ 0 (greedyL t 4) true)
 else if lv=2 then blkS (bestOut ⟨#[]⟩ 0 t (lazyL t 16) true)
 else packC t (cheapL t 64)
def DeflRight (t:ByteArray) (lv:Int):Prop:=t.size≤2600∧0≤lv∧lv≤3
instance (t:ByteArray) (lv:Int):Decidable (DeflRight t lv):=inferInstanceAs (Decidable (_∧_∧_))
def deflAns (t:ByteArray) (lv:Int):Value:=if DeflRight t lv then .tuple #[.string (deflT t lv.toNat),.bool true] else .tuple #[.string ⟨#[]⟩,.bool false]
def DeflateAnswer:Prop:=∀ (t:ByteArray) (lv:Int) (w:World),t.size≤1048576→(Lit.int .i64 lv).wf=true→OrderG w→
 Calls Tryz.prog 10 #[.string t,.int .i64 lv] w fun e w'=>e=.returned (deflAns t lv)∧Below w.heap.size w w'
end Go.Proofs.YtklpiihnbokkkaaGreatDoor

namespace Go.Proofs.YtklpiihnbokkkaaGreatDoor
open Go.RowKit Go.Joins DeflMath
theorem deflAns_form (t:ByteArray) (lv:Int):∃ s b,deflAns t lv=.tuple #[.string s,.bool b]:=by
 unfold deflAns
 split
 ·exact⟨_,_,rfl⟩
 ·exact⟨_,_,rfl⟩
set_option maxHeartbeats 800000 in
theorem FnExactDeflate_over (hA:DeflateAnswer) (hM:∀ (t:ByteArray) (lv:Int) (w:World),t.size≤1048576→Calls Tryz.prog 14 #[.string t,.int .i64 lv] w fun e w'=>e=.returned (deflAns t lv)∧Below w.heap.size w w')
  (t:ByteArray) (lv:Int) (w:World) (_hs:t.size≤maxLen) (hc:(Lit.int .i64 lv).wf=true) (hG:OrderG w):
  Calls Tryz.prog 5 #[.string t,.int .i64 lv] w fun e w'=>e=.returned (.bool true)∧Below w.heap.size w w':=by
 by_cases h:t.size≤1048576
 ·have d:decide ((1048576:Int) < (t.size:Int))=false:=decide_eq_false (by omega)
  have d':decide (1048576 < t.size)=false:=decide_eq_false (by omega)
  have HM:=hid_of fun W=>hM t lv W h
  have HA:=hid_of fun W hG=>hA t lv W h hc hG
  have HG:=hid_of hG
  obtain⟨s,b,e⟩:=deflAns_form t lv
  rw[e] at HM HA
  clear hA hM e hG
  go_enter Tryz.func5,Tryz.ntmps5
  go_wp2_with fail
  refine (HM.out _).mono ?_
  rintro e w1 ⟨rfl,hB1⟩
  have HB1:=hid_of hB1
  clear hB1
  go_wp2_with fail
  refine (HA.out w1 (HG.out.below HB1.out HG.out.1)).mono ?_
  rintro e w2 ⟨rfl,hB2⟩
  have HB2:=hid_of (bnext HB1.out hB2)
  clear hB2
  go_wp2_with fail
  go_ret
  exact⟨rfl,HB2.out⟩
 ·have d:decide ((1048576:Int) < (t.size:Int))=true:=decide_eq_true (by omega)
  have d':decide (1048576 < t.size)=true:=decide_eq_true (by omega)
  clear hA hM
  go_enter Tryz.func5,Tryz.ntmps5
  go_wp2_with fail
  go_ret
  exact⟨rfl,Below.refl _ _⟩
end Go.Proofs.YtklpiihnbokkkaaGreatDoor

namespace Go.Proofs.YtklpiihnbokkkaaGreatDoor
open Go.RowKit
theorem ret_i {k:IntKind} {a b:Int} (h:a=b):Ending.returned (.int k a)=.returned (.int k b):=by rw [h]
theorem ret_b {a b:Bool} (h:a=b):Ending.returned (.bool a)=.returned (.bool b):=by rw [h]
end Go.Proofs.YtklpiihnbokkkaaGreatDoor

namespace Go.Proofs.YtklpiihnbokkkaaGreatDoor
open Go.RowKit
def StoredAnswer:Prop:=∀ (s:ByteArray) (c:Int) (t:ByteArray) (last:Bool) (w:World),s.size≤1048576→-9223372036854775808≤c→c≤9223372036854775807→t.size≤1048576→
 Calls Tryz.prog 50 #[.agg #[.string s,.int .i64 c],.string t,.bool last] w fun e w'=>e=.returned (blkAns (storedOut s c t last))∧Below w.heap.size w w'
end Go.Proofs.YtklpiihnbokkkaaGreatDoor

namespace Go.Proofs.YtklpiihnbokkkaaGreatDoor
open Go.RowKit TokMath
def FixedAnswer:Prop:=∀ (s:ByteArray) (c:Int) (a:Option Addr) (cp:Nat) (L:List Tok) (last:Bool) (w:World),s.size≤1048576→-9223372036854775808≤c→c≤9223372036854775807→TCame w a L.length (fun j=>L.getD j (0,0,0))→L.length≤1048576→
 Calls Tryz.prog 52 #[.agg #[.string s,.int .i64 c],.slice a L.length cp,.bool last] w fun e w'=>e=.returned (blkAns (fixedOut s c L last))∧Below w.heap.size w w'
end Go.Proofs.YtklpiihnbokkkaaGreatDoor

namespace Go.Proofs.YtklpiihnbokkkaaGreatDoor
open Go.RowKit Go.Joins TokMath SearchMath DeflMath
theorem if_wanted {c A E:Prop} [Decidable c] (hc:c) (h:A):if c then A else E:=by rw [if_pos hc]; exact h
theorem wanted_none {o:Oper} {y:Nat→Option Bool} (h:o.guard=none):Region.wanted o y=true:=by simp [Region.wanted,h]
theorem part_length (L:List Tok) (k:Nat):(prt L k).length=min 60 (L.length - 60 * k):=by
 unfold prt
 rw[List.length_take,List.length_drop]
theorem part_get {L:List Tok} {k j:Nat} (h:j < (prt L k).length):(prt L k).getD j (0,0,0)=L.getD (60 * k+j) (0,0,0):=by
 rw[part_length] at h
 unfold prt
 rw[List.getD_eq_getElem?_getD,List.getElem?_take,if_pos (by omega),List.getElem?_drop,← List.getD_eq_getElem?_getD]
theorem part_right {L:List Tok} (hR:∀ t∈L,TokRight t) (k:Nat):∀ t∈prt L k,TokRight t:=fun t ht=>hR t (List.mem_of_mem_drop (List.mem_of_mem_take ht))
theorem part_came {w:World} {g off':Nat} {L:List Tok} (h:TCame w (some ⟨g,off',none⟩) L.length (fun j=>L.getD j (0,0,0))) {k:Nat} (hk:60 * k < L.length):TCame w (some ⟨g,off'+60 * k * 3,none⟩) (prt L k).length (fun j=>(prt L k).getD j (0,0,0)):=by
 have h1:=h.part (k:=60 * k) (m:=(prt L k).length) (by rw [part_length]; omega)
 exact h1.congr fun j hj=>(part_get hj).symm
theorem cut_cut (t:ByteArray) (a n:Nat) (h:a+n≤t.size):(t.extract a t.size).extract 0 n=t.extract a (a+n):=by
 rw[ByteArray.extract_extract]
 congr 1
 omega
theorem cut_rest (t:ByteArray) (a n:Nat) (_h:a+n≤t.size):(t.extract a t.size).extract n (t.size - a)=t.extract (a+n) t.size:=by
 rw[ByteArray.extract_extract]
 congr 1
 omega
end Go.Proofs.YtklpiihnbokkkaaGreatDoor

namespace Go.Proofs.YtklpiihnbokkkaaGreatDoor
open Go.RowKit Go.Joins TokMath SearchMath DeflMath
theorem sizeL_take {L:List Tok} {j:Nat} (h:j < L.length):sizeL (L.take (j+1))=sizeL (L.take j)+sizeT (L.getD j (0,0,0)):=by
 rw[List.take_add_one,List.getElem?_eq_getElem h,sizeL_app,List.getD_eq_getElem?_getD,List.getElem?_eq_getElem h]
 rfl
theorem sizeT_max {x y z:Int} (h:TokRight (x,y,z)):max 1 y=((sizeT (x,y,z):Nat):Int):=by
 unfold sizeT TokRight at *
 simp only [] at h ⊢
 split at h
 ·rename_i q
  rw[if_pos q,q]
  rfl
 ·rename_i q
  rw[if_neg q]
  omega
theorem sizeL_le258:∀ {L:List Tok},(∀ t∈L,TokRight t)→sizeL L≤258 * L.length
 | [],_=>Nat.le_refl _
 | t :: R,h=>by
  have h2:=sizeL_le258 fun u hu=>h u (List.mem_cons_of_mem t hu)
  have h1:sizeT t≤258:=by
   have:=h t List.mem_cons_self
   unfold TokRight at this
   unfold sizeT
   split <;> rename_i q
   ·omega
   ·rw[if_neg q] at this
    omega
  show sizeT t+sizeL R≤258 * (R.length+1)
  omega
theorem stepSize10 (x y z:Int) (w:World):
  Calls Tryz.prog 122 #[.agg #[.int .i64 x,.int .i64 y,.int .i64 z]] w fun e w'=>e=.returned (.int .i64 (max 1 y))∧Below w.heap.size w w':=by
 have hmx:(if (1:Int) < y then y else 1)=max 1 y:=by split <;> omega
 go_enter Tryz.func122,Tryz.ntmps122
 go_wp2_with fail
 go_ret
 refine⟨?_,bstart _ _⟩
 first | rfl | (rw [hmx]) | (simp only [hmx])
set_option maxHeartbeats 1600000 in
theorem madeSize_any (a:Option Addr) (c:Nat) (L:List Tok) (w:World) (hC:TCame w a L.length (fun j=>L.getD j (0,0,0))) (hn:L.length≤1048576) (hR:∀ t∈L,TokRight t):
  Calls Tryz.prog 91 #[.slice a L.length c] w fun e w'=>e=.returned (.int .i64 (sizeL L:Nat))∧Below w.heap.size w w':=by
 have HC:=hid_of hC
 have HR:=hid_of hR
 clear hC hR
 go_enter Tryz.func91,Tryz.ntmps91
 go_wp2_with fail
 go_loopg [3,8] (L.length+1) (fun gk v i w'=>∃ (j z:Nat),j≤L.length∧L.length - j≤gk∧i=.int .i64 j∧v=.int .i64 z∧z≤258 * j∧Hid (Below w.heap.size w w'∧z=sizeL (L.take j)))
 case atStart=>exact⟨0,0,Nat.zero_le _,by omega,rfl,rfl,by omega,Below.refl _ _,rfl⟩
 case round=>
  obtain⟨j,z,hj,hgk,rfl,rfl,hz1,hS⟩:=hrel
  by_cases hlt:j < L.length
  ·have dl:decide ((j:Int) < (L.length:Int))=true:=decide_eq_true (by omega)
   rcases HC.out with q | ⟨g,off,rfl,hg,hc⟩
   ·omega
   obtain⟨c0,c1,c2⟩:w.cell? ⟨g,off+j * 3,none⟩=some (.int .i64 (L.getD j (0,0,0)).1)∧w.cell? ⟨g,off+j * 3+1,none⟩=some (.int .i64 (L.getD j (0,0,0)).2.1)∧w.cell? ⟨g,off+j * 3+2,none⟩=some (.int .i64 (L.getD j (0,0,0)).2.2):=hc j hlt
   have HST:=hid_of (sizeL_take hlt)
   have HIN:Hid (L.getD j (0,0,0)∈L):=by
    rw[List.getD_eq_getElem?_getD,List.getElem?_eq_getElem hlt]
    exact List.getElem_mem hlt
   have HB8:Hid (sizeL (L.take (j+1))≤258 * (j+1)):=by
    have:=sizeL_le258 (L:=L.take (j+1)) fun t ht=>HR.out t (List.mem_of_mem_take ht)
    rw[List.length_take] at this
    exact Nat.le_trans this (Nat.mul_le_mul_left _ (Nat.min_le_left _ _))
   obtain⟨⟨x,y,q⟩,hr⟩:∃ r,r=L.getD j (0,0,0):=⟨_,rfl⟩
   rw[← hr] at c0 c1 c2 HST HIN
   have f0:wr.cell? ⟨g,off+j * 3,none⟩=some (.int .i64 x):=(hS.out.1.cell (p:=⟨g,off+j * 3,none⟩) hg).trans c0
   have f1:wr.cell? ⟨g,off+j * 3+1,none⟩=some (.int .i64 y):=(hS.out.1.cell (p:=⟨g,off+j * 3+1,none⟩) hg).trans c1
   have f2:wr.cell? ⟨g,off+j * 3+2,none⟩=some (.int .i64 q):=(hS.out.1.cell (p:=⟨g,off+j * 3+2,none⟩) hg).trans c2
   have hl2:g < wr.heap.size:=Nat.lt_of_lt_of_le hg hS.out.1.size
   have hss:=fun W=>stepSize10 x y q W
   rw[sizeT_max (HR.out _ HIN.out)] at hss
   obtain⟨k,hk⟩:∃ k,k=sizeT (x,y,q):=⟨_,rfl⟩
   rw[← hk] at hss
   have hk8:z+k≤258 * (j+1):=by
    have h1:=HST.out
    have h2:=HB8.out
    have h3:=hS.out.2
    omega
   have HK:=hid_of hk
   clear hc c0 c1 c2 hr hk
   go_wp2_with fail
   refine (hss _).mono ?_
   rintro e w2 ⟨rfl,hB2⟩
   have HB2:Hid (Below w.heap.size w w2):=bnext (bal hS.out.1 _) hB2
   have HZ:Hid (z+k=sizeL (L.take (j+1))):=by
    show z+k=_
    rw[HST.out,← HK.out,← hS.out.2]
   clear hss f0 f1 f2 hB2
   go_wp2_with fail
   go_roundg (L.length - (j+1))
   case measure=>omega
   case rel=>exact⟨j+1,z+k,by omega,Nat.le_refl _,by go_num,by go_num,hk8,HB2.out,HZ.out⟩
  ·obtain rfl:j=L.length:=by omega
   have dl:decide ((L.length:Int) < (L.length:Int))=false:=decide_eq_false (by omega)
   go_wp2_with fail
   go_ret
   refine⟨?_,hS.out.1⟩
   rw[hS.out.2,List.take_length]
   rfl
end Go.Proofs.YtklpiihnbokkkaaGreatDoor

namespace Go.Proofs.YtklpiihnbokkkaaGreatDoor
open Go.RowKit Go.Shelf
theorem calls_of_marks {P:Program} {f:FuncId} {fn:Func} {c:Code} {args:Array Value} {w:World} {R:Ending→World→Prop} (hf:P.funcs[f]?=some fn) (hb:fn.body=some c)
  (h:c.wp P (bodyPostM Fence.wide 6 P fn R) { tmps:=args ++ Array.replicate (fn.ntmps - args.size) undef,defers:=[] } w):Calls P f args w R:=
 (callsIn_wide (n:=6)).1 (callsIn_of_wp_marks hf hb trivial (wpIn_wide.2 h) rfl)
def TellsNext (gf:Nat) (lb:Array Value) (encs:Nat→Array Value) (N:Nat) (Kp:World→World→Prop) (W:World):Prop:=
 ∀ (l:Nat) (J:Nat→World→Prop) (V:World),Kp W V→(∀ k X n,J k X→J k (X.drewN n))→
  (∀ k X,k < N→J k X→YieldAt Fence.wide 4 Tryz.prog l (encs k) X fun e Y=>e=.returned (.bool true)∧J (k+1) Y∧Kp X Y)→J 0 V→
  CallsIn Fence.wide 5 Tryz.prog gf (#[.func (.yield l) #[] #[]] ++ lb) V fun e Y=>(∃ v,e=.returned v)∧J N Y
def Rec (W X:World) (r:Loop):Prop:=X.heap[W.heap.size+1]?=some (.loop r)∧X.heap[W.heap.size]?=some (.deferred (some []))
theorem Rec.kept {W X Y:World} {r:Loop} (h:Rec W X r) (hk:KeepsFrom W.heap.size X Y):Rec W Y r:=
 ⟨hk.same _ _ (Nat.le_succ _) h.1 rfl,hk.same _ _ (Nat.le_refl _) h.2 rfl⟩
theorem Rec.put {W X:World} {r:Loop} (h:Rec W X r) (r':Loop):Rec W (X.putObj (W.heap.size+1) (.loop r')) r':=
 ⟨World.putObj_heap_same (block_lt h.1),(World.putObj_heap_other (by omega)).trans h.2⟩
theorem wp_range_next {T:Array Value} {g:Operand} {ps:Array Tmp} {assign body:Code} {Q:Exit→Act→World→Prop} {W:World} {gf:Nat} {lb:Array Value} (encs:Nat→Array Value) (N:Nat) (Kp:World→World→Prop)
  (hg:({ tmps:=T,defers:=[] }:Act).eval g=.func (.func gf) #[] lb) (eg:∀ args w,(callFunc gf args).run Tryz.prog w=.ok (.enter gf args) w) (hps:∀ k,(encs k).size=ps.size) (hseq:TellsNext gf lb encs N Kp W)
  (hKt:∀ {A B C:World},Kp A B→Kp B C→Kp A C) (hKp:∀ (X:World) (i:Nat) (o:Obj),W.heap.size≤i→Kp X (X.putObj i o)) (hKa:∀ (X:World) (o:Obj),W.heap.size≤X.heap.size→Kp X (X.alloc o))
  (I:Nat→World→Prop) (hI:OwnFrom W.heap.size I) (hId:∀ k X n,I k X→I k (X.drewN n)) (h0:I 0 W) (a₁:Nat→Act)
  (hassign:∀ (l k:Nat) (X:World) (K:Act→World→Prop),K (a₁ k) X→assign.wpIn (Fence.wide.inRound l) 4 Tryz.prog (Exit.then K (fun _ _ _=>False)) { tmps:=(ps.zip (encs k)).foldl (fun t (p,v)=>t.setIfInBounds p v) T,defers:=[] } X)
  (hbody:∀ (l k:Nat) (X:World),k < N→I k X→body.wpIn (Fence.wide.inRound l) 4 Tryz.prog (fun e _ Y=>e=.normal∧KeepsFrom W.heap.size X Y∧Kp X Y∧I (k+1) Y) (a₁ k) X)
  (hdone:∀ (X:World),I N X→X.heap[W.heap.size]?=some (.deferred (some []))→Q .normal { tmps:=T,defers:=[{ target:=.collected W.heap.size,args:=#[] }] } X):
  (Code.rangeFunc g ps assign body).wp Tryz.prog Q { tmps:=T,defers:=[] } W:=by
 refine (wpIn_wide (n:=6)).1 (wpIn_rangeFunc fun fn hfn=>?_)
 obtain⟨rc,hrc⟩:∃ rc:LoopState→Loop,rc=fun st=>{ state:=st,pending:=none,fn:=fn,tmps:=T,params:=ps,assign:=assign,body:=body,defers:=W.heap.size }:=⟨_,rfl⟩
 obtain⟨V,hV⟩:∃ V,V=(W.alloc (.deferred (some []))).alloc (.loop (rc .ready)):=⟨_,rfl⟩
 have hs1:(W.alloc (.deferred (some []))).heap.size=W.heap.size+1:=by simp
 have hRec:Rec W V (rc .ready):=by
  rw[hV]
  refine⟨?_,?_⟩
  ·have:=World.alloc_heap_new (W.alloc (.deferred (some []))) (.loop (rc .ready))
   rw[hs1] at this
   exact this
  ·exact ((bstart (W.alloc (.deferred (some []))) _).block _ (by omega)).trans (World.alloc_heap_new W _)
 have hIV:I 0 V:=by
  rw[hV]
  exact hI.alloc _ (hI.alloc _ h0)
 have hKV:Kp W V:=by
  rw[hV]
  exact hKt (hKa W _ (Nat.le_refl _)) (hKa _ _ (by omega))
 refine⟨W.heap.size+1,[{ target:=.collected W.heap.size,args:=#[] }],V,{ target:=.fn (.func gf) lb,args:=#[.func (.yield (W.heap.size+1)) #[] #[]] },V,gf,#[.func (.yield (W.heap.size+1)) #[] #[]] ++ lb,V,?_,?_,?_,?_,fun _=>by omega,?_⟩
 ·rw[hV,hrc]
  exact run_enterLoop_outer _ _ _ _ _
 ·simp only [resolve,hg]
  simp[go_sem]
 ·exact fun _ _=>trivial
 ·simp[invoke,go_sem,eg]
 ·refine (hseq (W.heap.size+1) (fun k X=>I k X∧Rec W X (rc .ready)) V hKV (fun k X n h=>⟨hId k X n h.1,h.2⟩) ?_ ⟨hIV,hRec⟩).mono ?_
  ·rintro k X hk ⟨hi,hr⟩
   have hy:=run_yield (P:=Tryz.prog) (args:=encs k) hr.1 (by rw [hrc]; exact hps k)
   rw[hrc] at hy
   refine⟨fn,_,assign,body,hy,roundIn_of_wpIn hfn (hassign _ k X _ ⟨_,run_beginRound hr.1 (by rw [hrc]),?_⟩)⟩
   have hb:Rec W (X.putObj (W.heap.size+1) (.loop { rc .ready with state:=.busy })) { rc .ready with state:=.busy }:=hr.put _
   refine wpIn_mono (hbody _ k _ hk (hI.putObj _ hi (Nat.le_succ _) hr.1 rfl)) ?_
   rintro e a3 Y ⟨rfl,h1,h2,h3⟩
   have hy3:=hb.kept h1
   have he:=run_endRound (P:=Tryz.prog) none hy3.1
   refine⟨_,_,he,rfl,⟨hI.putObj _ h3 (Nat.le_succ _) hy3.1 rfl,?_⟩,hKt (hKt (hKp X _ _ (Nat.le_succ _)) h2) (hKp Y _ _ (Nat.le_succ _))⟩
   have hz:=hy3.put { rc .ready with state:=.ready,pending:=none }
   rw[hrc] at hz ⊢
   exact hz
  ·rintro e Y ⟨⟨v,rfl⟩,hi,hr⟩
   have he:=run_endLoop (P:=Tryz.prog) hr.1 (by rw [hrc]; simp)
   have hp:(rc .ready).pending=none:=by rw [hrc]
   rw[hp] at he
   exact⟨none,_,he,hdone _ (hI.putObj _ hi (Nat.le_succ _) hr.1 rfl) ((World.putObj_heap_other (by omega)).trans hr.2)⟩
end Go.Proofs.YtklpiihnbokkkaaGreatDoor

namespace Go.Proofs.YtklpiihnbokkkaaGreatDoor
open Go.RowKit Go.Shelf
attribute [local go_sem] Oper.semAt_some
def Both (a b:Nat) (W W':World):Prop:=W'.heap[a]?=W.heap[a]?∧W'.heap[b]?=W.heap[b]?
def chunkAt (g off n k:Nat):Array Value:=#[.slice (some ⟨g,off+60 * k * 3,none⟩) (min 60 (n - 60 * k)) (min 60 (n - 60 * k))]
theorem chunk_any (a:Option Addr) (len cap:Nat) (w:World):
  Calls Tryz.prog 90 #[.slice a len cap,.int .i64 60] w fun e w'=>e=.returned (.func (.func 138) #[] #[.pointer (some ⟨w.heap.size,0,none⟩),.pointer (some ⟨w.heap.size+1,0,none⟩)])∧w'=(w.alloc (.cells #[.slice a len cap] 72)).alloc (.cells #[.int .i64 60] 3):=by
 go_enter Tryz.func90,Tryz.ntmps90
 go_wp2_with fail
 go_ret
 exact⟨rfl,rfl⟩
set_option maxRecDepth 100000 in
set_option maxHeartbeats 2000000 in
theorem chunk_tells (Bs Bn g off len cap:Nat) (hlen:len≤1048576) (hcap:len≤cap) (W:World) (hBs:W.cell? ⟨Bs,0,none⟩=some (.slice (some ⟨g,off,none⟩) len cap)) (hBn:W.cell? ⟨Bn,0,none⟩=some (.int .i64 60)):
  TellsNext 138 #[.pointer (some ⟨Bs,0,none⟩),.pointer (some ⟨Bn,0,none⟩)] (chunkAt g off len) ((len+59) / 60) (Both Bs Bn) W:=by
 intro l J V hWV hJd hY h0
 have HY:=hid_of hY
 have HJD:=hid_of hJd
 have HWV:=hid_of hWV
 clear hY hJd hWV
 refine callsIn_of_wp Tryz.func138 rfl trivial ?_ rfl
 simp only [Tryz.ntmps138,List.size_toArray,List.length_cons,List.length_nil,Nat.reduceAdd,Nat.reduceSub,Array.replicate_succ,Array.replicate_zero,List.push_toArray,List.append_toArray,List.nil_append,List.cons_append]
 gi_wp2
 gi_loopw [4] (fun i wr=>∃ k:Nat,k≤(len+59) / 60∧i=.int .i64 ((60 * k:Nat):Int)∧Hid (J k wr∧Both Bs Bn W wr))
  (fun i _=>(len+60 - intOf i).toNat)
 case atStart=>exact⟨0,Nat.zero_le _,rfl,h0,HWV.out⟩
 case round=>
  obtain⟨k,hk,rfl,hS⟩:=hrel
  have c1:wr.cell? ⟨Bs,0,none⟩=some (.slice (some ⟨g,off,none⟩) len cap):=(heap_cell hS.out.2.1 0).trans hBs
  have c2:wr.cell? ⟨Bn,0,none⟩=some (.int .i64 60):=(heap_cell hS.out.2.2 0).trans hBn
  by_cases hlt:60 * k < len
  ·have d1:decide (((60 * k:Nat):Int) < (len:Int))=true:=decide_eq_true (by omega)
   have h1:(0:Int)≤((60 * k:Nat):Int):=by omega
   have h2:((60 * k:Nat):Int)≤(len:Int):=by omega
   have h3:((60 * k:Nat):Int)≤(cap:Int):=by omega
   by_cases hfew:len - 60 * k < 60
   ·have q1:((len - 60 * k:Nat):Int) < 60:=by omega
    have q2:decide (((len - 60 * k:Nat):Int) < 60)=true:=decide_eq_true q1
    gi_wp2
    gi_region
    all_goals
     obtain⟨fn,tmps,assign,body,hy,hR⟩:=HY.out k wr.drew (by omega) (HJD.out k wr 1 hS.out.1)
     rw[show chunkAt g off len k=#[.slice (some ⟨g,off+60 * k * 3,none⟩) (len - 60 * k) (len - 60 * k)] from by
      unfold chunkAt
      rw[show min 60 (len - 60 * k)=len - 60 * k by omega]] at hy
     gi_wp2
     refine hR.mono ?_
     rintro e W3 ⟨rfl,hJ3,hk3⟩
     have c4:W3.cell? ⟨Bn,0,none⟩=some (.int .i64 60):=(heap_cell hk3.2 0).trans c2
     have H3:Hid (J (k+1) W3∧Both Bs Bn W W3):=⟨hJ3,hk3.1.trans hS.out.2.1,hk3.2.trans hS.out.2.2⟩
     clear hJ3 hk3
     gi_wp2
     go_roundw
     case rel=>exact⟨k+1,by omega,by go_num,H3⟩
     case measure=>simp [intOf]; omega
   ·have q1:¬ ((len - 60 * k:Nat):Int) < 60:=by omega
    have q2:decide (((len - 60 * k:Nat):Int) < 60)=false:=decide_eq_false q1
    gi_wp2
    gi_region
    all_goals
     obtain⟨fn,tmps,assign,body,hy,hR⟩:=HY.out k wr.drew (by omega) (HJD.out k wr 1 hS.out.1)
     rw[show chunkAt g off len k=#[.slice (some ⟨g,off+60 * k * 3,none⟩) 60 60] from by
      unfold chunkAt
      rw[show min 60 (len - 60 * k)=60 by omega]] at hy
     gi_wp2
     refine hR.mono ?_
     rintro e W3 ⟨rfl,hJ3,hk3⟩
     have c4:W3.cell? ⟨Bn,0,none⟩=some (.int .i64 60):=(heap_cell hk3.2 0).trans c2
     have H3:Hid (J (k+1) W3∧Both Bs Bn W W3):=⟨hJ3,hk3.1.trans hS.out.2.1,hk3.2.trans hS.out.2.2⟩
     clear hJ3 hk3
     gi_wp2
     go_roundw
     case rel=>exact⟨k+1,by omega,by go_num,H3⟩
     case measure=>simp [intOf]; omega
  ·have d1:decide (((60 * k:Nat):Int) < (len:Int))=false:=decide_eq_false (by omega)
   gi_wp2
   go_end0
   have hkk:k=(len+59) / 60:=by omega
   exact⟨⟨_,rfl⟩,hkk ▸ hS.out.1⟩
where
 heap_cell {W W':World} {g:Nat} (h:W'.heap[g]?=W.heap[g]?) (j:Nat):W'.cell? ⟨g,j,none⟩=W.cell? ⟨g,j,none⟩:=by
  unfold World.cell?
  rw[h]
end Go.Proofs.YtklpiihnbokkkaaGreatDoor

namespace Go.Proofs.YtklpiihnbokkkaaGreatDoor
open Go.RowKit
theorem oper_round {l n:Nat} {o:Oper} {a:Act} {w:World} {K:Act→World→Prop} {Q:Exit→Act→World→Prop} (hd:∀ c,o.op≠.defer c) (h:o.wp Tryz.prog a w K Q):o.wpIn (Fence.wide.inRound l) n Tryz.prog a w K Q:=by
 refine⟨fun _ _=>trivial,?_⟩
 rw[Oper.semAt_plain _ _ _ hd]
 unfold Oper.wp at h
 generalize (execOp a.eval o).run Tryz.prog w=r at h ⊢
 cases r with
 | ok x w'=>
  cases x with
  | value v=>exact h
  | skip=>exact h
  | defer d=>exact h
  | enter f args=>exact⟨(fun q=>by cases q),CallsIn.inRound l (callsIn_wide.2 h)⟩
  | row row args=>
   refine⟨(fun q=>by cases q),fun c cs _=>?_⟩
   obtain⟨v,w'',h1,h2⟩:=h c cs
   exact⟨v,w'',h1,stepsIn_wide.2 h2⟩
  | _=>exact (h:False).elim
 | halt x w'=>cases x <;> exact h
theorem any_round {l n:Nat} {ops:Array Oper} {Q:Exit→Act→World→Prop} (hd:∀ o∈ops.toList,∀ c,o.op≠.defer c) (hQ:¬ LetsOut Q):∀ (fuel:Nat) (listed:Array Bool) (a:Act) (w:World),wpAny Tryz.prog .any ops Q fuel listed a w→wpAnyIn (Fence.wide.inRound l) n Tryz.prog .any ops Q fuel listed a w
 | 0,_,_,_,h=>h
 | fuel+1,listed,a,w,h=>by
  refine⟨h.1,fun i hi=>?_⟩
  have h2:=h.2 i hi
  unfold wpOp at h2
  unfold wpOpIn
  cases ho:ops[i]? with
  | none=>
   rw[ho] at h2
   exact any_round hd hQ fuel _ _ _ h2
  | some o=>
   rw[ho] at h2
   have hm:o∈ops.toList:=by
    rw[Array.mem_toList_iff]
    exact Array.mem_of_getElem? ho
   simp only [] at h2 ⊢
   split
   ·rename_i hw
    rw[if_pos hw] at h2
    rcases h2 with h3 | h3
    ·exact Oper.wpIn_mono (fun a w=>any_round hd hQ fuel _ a w) (oper_round (hd o hm) h3)
    ·exact (hQ h3.2).elim
   ·rename_i hw
    rw[if_neg hw] at h2
    exact⟨fun _ _=>trivial,any_round hd hQ fuel _ _ _ h2⟩
theorem region_round {l n id:Nat} {ops:Array Oper} {Q:Exit→Act→World→Prop} {a:Act} {w:World} {S:World→Prop} (hd:∀ o∈ops.toList,∀ c,o.op≠.defer c) (hQ:¬ LetsOut Q)
  (h:wpAnyH Tryz.prog .any ops Q S ops.size (Array.replicate ops.size false) a w.drew):(Code.region id ops true).wpIn (Fence.wide.inRound l) n Tryz.prog Q a w:=
 wpIn_region_any (by kernel_rfl) (any_round hd hQ _ _ _ _ (wpAny_of_held _ _ _ _ h))
end Go.Proofs.YtklpiihnbokkkaaGreatDoor
