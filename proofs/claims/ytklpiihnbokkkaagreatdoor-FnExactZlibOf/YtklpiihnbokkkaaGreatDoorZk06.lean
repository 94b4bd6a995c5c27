/-
  Texts of the proof, put together.
-/
import Derived.Test.YtklpiihnbokkkaaGreatDoorZk05
import Derived.WalkLawsBesides
import Derived.BigQuiet
namespace Go.Proofs.YtklpiihnbokkkaaGreatDoor
open Go.RowKit Go.Joins TokMath
theorem TCame.grown {w w':World} {a:Option Addr} {n B:Nat} {F:Nat→Tok} {row:Option Nat} (h:TCame w a n F) (hB:∀ g off,a=some ⟨g,off,none⟩→g < B) (hr:∀ k,row=some k→B≤k) (hg:w.grownBy w' row):TCame w' a n F:=by
 rcases h with h | ⟨g,off,ha,hlt,hc⟩
 ·exact .inl h
 ·have hne:some g≠row:=fun e=>by have h1:=hB g off ha; have h2:=hr g e.symm; omega
  have hb:=hg.block g hlt hne
  exact .inr ⟨g,off,ha,Nat.lt_of_lt_of_le hlt hg.size,fun j hj=>⟨(World.cell?_of_block (w:=w) hb).trans (hc j hj).1,(World.cell?_of_block (w:=w) hb).trans (hc j hj).2.1,(World.cell?_of_block (w:=w) hb).trans (hc j hj).2.2⟩⟩
theorem TOwn.free {w:World} {base g n:Nat} {F:Nat→Tok} (h:TOwn w base g n F) (k:Nat):w.frozen? ⟨g,k,none⟩=false:=by
 obtain⟨_,cur,h2,_⟩:=h
 simp[World.frozen?,h2]
def updT (F:Nat→Tok) (j:Nat) (t:Tok):Nat→Tok:=fun i=>if i=j then t else F i
theorem TOwn.set {w:World} {base g n:Nat} {F:Nat→Tok} (h:TOwn w base g n F) (j:Nat) (hj:j < n) (x y z:Int):TOwn (((w.setCell ⟨g,j * 3,none⟩ (.int .i64 x)).setCell ⟨g,j * 3+1,none⟩ (.int .i64 y)).setCell ⟨g,j * 3+2,none⟩ (.int .i64 z)) base g n (updT F j (x,y,z)):=by
 obtain⟨h1,cur,h2,h3,h4⟩:=h
 refine⟨h1,((cur.setIfInBounds (j * 3) (.int .i64 x)).setIfInBounds (j * 3+1) (.int .i64 y)).setIfInBounds (j * 3+2) (.int .i64 z),?_,by simpa using h3,fun i hi=>?_⟩
 ·simp[World.setCell,Array.getElem?_modify,h2]
 ·obtain⟨k1,k2,k3⟩:=h4 i hi
  unfold updT
  by_cases e:i=j
  ·subst e
   rw[if_pos rfl]
   refine⟨?_,?_,?_⟩
   ·rw[Array.getElem?_setIfInBounds_ne (by omega),Array.getElem?_setIfInBounds_ne (by omega),Array.getElem?_setIfInBounds_self_of_lt (by omega)]
   ·rw[Array.getElem?_setIfInBounds_ne (by omega),Array.getElem?_setIfInBounds_self_of_lt (by simp; omega)]
   ·rw[Array.getElem?_setIfInBounds_self_of_lt (by simp; omega)]
  ·rw[if_neg e]
   refine⟨?_,?_,?_⟩
   ·rw[Array.getElem?_setIfInBounds_ne (by omega),Array.getElem?_setIfInBounds_ne (by omega),Array.getElem?_setIfInBounds_ne (by omega)]; exact k1
   ·rw[Array.getElem?_setIfInBounds_ne (by omega),Array.getElem?_setIfInBounds_ne (by omega),Array.getElem?_setIfInBounds_ne (by omega)]; exact k2
   ·rw[Array.getElem?_setIfInBounds_ne (by omega),Array.getElem?_setIfInBounds_ne (by omega),Array.getElem?_setIfInBounds_ne (by omega)]; exact k3
theorem TOwn.congr {w:World} {base g n:Nat} {F G:Nat→Tok} (h:TOwn w base g n F) (e:∀ j,j < n→F j=G j):TOwn w base g n G:=by
 obtain⟨h1,cur,h2,h3,h4⟩:=h
 exact⟨h1,cur,h2,h3,fun j hj=>by rw [← e j hj]; exact h4 j hj⟩
theorem TOwn.grown {w w':World} {base g n:Nat} {F:Nat→Tok} {row:Option Nat} (h:TOwn w base g n F) (hg:w.grownBy w' row) (hne:row≠some g):TOwn w' base g n F:=h.keep (hg.block g h.lt (Ne.symm hne))
def TSL (w:World) (base:Nat) (a:Option Addr) (n:Nat) (F:Nat→Tok):Prop:=n=0∨∃ g,a=some ⟨g,0,none⟩∧TOwn w base g n F
theorem TSL.came {w:World} {base:Nat} {a:Option Addr} {n:Nat} {F:Nat→Tok} (h:TSL w base a n F):TCame w a n F:=by
 rcases h with h | ⟨g,rfl,h⟩
 ·exact .inl h
 ·exact h.came
theorem TSL.called {w w':World} {base:Nat} {a:Option Addr} {n:Nat} {F:Nat→Tok} (h:TSL w base a n F) (hb:Below w.heap.size w w'):TSL w' base a n F:=by
 rcases h with h | ⟨g,rfl,h⟩
 ·exact .inl h
 ·exact .inr ⟨g,rfl,h.called hb⟩
theorem tsl_of_own {w:World} {S n:Nat} {v:Value} {L:List Tok} (h:w.ownsRow S 105 3 v n (tcells L)) (hn:n=L.length):∃ a c,v=.slice a L.length c∧L.length≤c∧TSL w S a L.length (fun j=>L.getD j (0,0,0)):=by
 subst hn
 rcases h.2 with ⟨rfl,h0⟩ | ⟨g,cap,cur,rfl,hb,hg,hc,hm,hs,ht⟩
 ·exact⟨none,0,by rw [h0],by omega,.inl h0⟩
 ·refine⟨_,cap,rfl,hc,.inr ⟨g,rfl,hb,cur,hg,by omega,fun j hj=>?_⟩⟩
  have q:=tcells_get L j hj
  have k1:=h.cellAt (j * 3) (by omega)
  have k2:=h.cellAt (j * 3+1) (by omega)
  have k3:=h.cellAt (j * 3+2) (by omega)
  rw[cell_of_block hg] at k1 k2 k3
  rw[k1,k2,k3]
  exact q
end Go.Proofs.YtklpiihnbokkkaaGreatDoor

namespace Go.Proofs.YtklpiihnbokkkaaGreatDoor.CheapMath
open TokMath StepMath SearchMath
def costT (t:Tok):Int:=if t.2.1=0 then (if t.1 < 144 then 8 else 9) else (if (LengthCodeOf t.2.1).1 < 280 then 7 else 8)+(LengthCodeOf t.2.1).2.1+5+(DistCodeOf t.2.2).2.1
theorem cost_byte (x z:Int):costT (x,0,z)=if x < 144 then 8 else 9:=rfl
theorem cost_range (t:Tok):0≤costT t∧costT t≤31:=by
 unfold costT
 split
 ·split <;> omega
 ·have h1:0≤(LengthCodeOf t.2.1).2.1∧(LengthCodeOf t.2.1).2.1≤5:=by
   by_cases h:3≤t.2.1∧t.2.1≤258
   ·have:=len_back h.1 h.2
    exact⟨this.2.2.2.2.2.1,this.2.2.2.2.2.2⟩
   ·unfold LengthCodeOf
    rw[if_neg h]
    exact⟨by show (0:Int)≤0; omega,by show (0:Int)≤5; omega⟩
  have h2:0≤(DistCodeOf t.2.2).2.1∧(DistCodeOf t.2.2).2.1≤13:=by
   by_cases h:1≤t.2.2∧t.2.2≤32768
   ·have:=dist_back h.1 h.2
    exact⟨this.2.2.2.2.2.1,this.2.2.2.2.2.2⟩
   ·unfold DistCodeOf
    rw[if_neg h]
    exact⟨by show (0:Int)≤0; omega,by show (0:Int)≤13; omega⟩
  split <;> omega
section
variable (f:Nat→Nat) (N chain:Nat)
def pickK (C:Nat→Int) (at' d:Nat) (acc:Int×Tok):Nat→Int×Tok
 | 0=>acc
 | m+1=>if costT (0,((3+m:Nat):Int),(d:Int))+C (at'+(3+m)) < (pickK C at' d acc m).1 then (costT (0,((3+m:Nat):Int),(d:Int))+C (at'+(3+m)),(0,((3+m:Nat):Int),(d:Int))) else pickK C at' d acc m
def entry (C:Nat→Int) (at':Nat):Int×Tok:=pickK C at' (bestM f N at' chain).2 (costT ((f at':Int),0,0)+C (at'+1),((f at':Int),0,0)) ((bestM f N at' chain).1 - 2)
def tab:Nat→Nat→Int×Tok
 | 0,_=>(0,(0,0,0))
 | m+1,i=>if i=N - (m+1) then entry f N chain (fun j=>(tab m j).1) i else tab m i
def costAt (i:Nat):Int:=(tab f N chain N i).1
def takeAt (i:Nat):Tok:=(tab f N chain N i).2
end
section
variable {f:Nat→Nat} {N chain:Nat}
theorem pickK_congr {C C':Nat→Int} {at' d:Nat} {acc:Int×Tok}:∀ m,(∀ j,j < m→C (at'+(3+j))=C' (at'+(3+j)))→pickK C at' d acc m=pickK C' at' d acc m
 | 0,_=>rfl
 | m+1,h=>by
  unfold pickK
  rw[pickK_congr m (fun j hj=>h j (by omega)),h m (Nat.lt_succ_self m)]
theorem entry_congr {C C':Nat→Int} {at':Nat} (h:∀ j,at' < j→C j=C' j):entry f N chain C at'=entry f N chain C' at':=by
 unfold entry
 rw[h (at'+1) (by omega),pickK_congr _ (fun j _=>h _ (by omega))]
theorem tab_past:∀ m i,N≤i→m≤N→tab f N chain m i=(0,(0,0,0))
 | 0,_,_,_=>rfl
 | m+1,i,h,hm=>by
  unfold tab
  rw[if_neg (by omega)]
  exact tab_past m i h (by omega)
theorem tab_stay:∀ d m i,N - m≤i→m+d≤N→tab f N chain (m+d) i=tab f N chain m i
 | 0,_,_,_,_=>rfl
 | d+1,m,i,h,hm=>by
  show (if i=N - (m+d+1) then entry f N chain (fun j=>(tab f N chain (m+d) j).1) i else tab f N chain (m+d) i)=_
  rw[if_neg (by omega)]
  exact tab_stay d m i h (by omega)
theorem tab_done {m i:Nat} (h:N - m≤i) (hm:m≤N):tab f N chain N i=tab f N chain m i:=by
 obtain⟨d,rfl⟩:=Nat.exists_eq_add_of_le hm
 exact tab_stay d m i h (Nat.le_refl _)
theorem tab_entry {i:Nat} (h:i < N):tab f N chain N i=entry f N chain (costAt f N chain) i:=by
 have h1:tab f N chain N i=tab f N chain (N - 1 - i+1) i:=tab_done (by omega) (by omega)
 rw[h1]
 show (if i=N - (N - 1 - i+1) then entry f N chain (fun j=>(tab f N chain (N - 1 - i) j).1) i else _)=_
 rw[if_pos (by omega)]
 exact entry_congr (fun j hj=>by
  show (tab f N chain (N - 1 - i) j).1=(tab f N chain N j).1
  rw[tab_done (m:=N - 1 - i) (by omega) (by omega)])
theorem cost_past {i:Nat} (h:N≤i):costAt f N chain i=0:=by
 unfold costAt
 rw[tab_past N i h (Nat.le_refl _)]
def Opt (f:Nat→Nat) (N chain at':Nat) (t:Tok):Prop:=t=((f at':Int),0,0)∨∃ k,3≤k∧k≤(bestM f N at' chain).1∧t=(0,(k:Int),((bestM f N at' chain).2:Int))
theorem opt_fine {at':Nat} {t:Tok} (h:Opt f N chain at' t):Fine f N at' t:=by
 rcases h with rfl | ⟨k,h3,hk,rfl⟩
 ·exact .inl rfl
 ·have hr:=best_rep (f:=f) (N:=N) (at':=at') (chain:=chain) (by omega)
  obtain⟨h1,h2,h4,h5⟩:=hr
  exact .inr ⟨k,_,rfl,⟨h3,by omega⟩,h2,by omega,fun i hi=>h5 i (by omega)⟩
theorem pickK_is (C:Nat→Int) (at' d:Nat) (acc:Int×Tok):∀ m,pickK C at' d acc m=acc∨∃ k,3≤k∧k < 3+m∧pickK C at' d acc m=(costT (0,(k:Int),(d:Int))+C (at'+k),(0,(k:Int),(d:Int)))
 | 0=>.inl rfl
 | m+1=>by
  unfold pickK
  split
  ·exact .inr ⟨3+m,by omega,by omega,rfl⟩
  ·rcases pickK_is C at' d acc m with h | ⟨k,h1,h2,h⟩
   ·exact .inl h
   ·exact .inr ⟨k,h1,by omega,h⟩
theorem pickK_le (C:Nat→Int) (at' d:Nat) (acc:Int×Tok):∀ m,(pickK C at' d acc m).1≤acc.1∧∀ k,3≤k→k < 3+m→(pickK C at' d acc m).1≤costT (0,(k:Int),(d:Int))+C (at'+k)
 | 0=>⟨Int.le_refl _,fun k h1 h2=>by omega⟩
 | m+1=>by
  obtain⟨h1,h2⟩:=pickK_le C at' d acc m
  unfold pickK
  split
  ·rename_i q
   refine⟨?_,fun k k1 k2=>?_⟩
   ·show costT (0,((3+m:Nat):Int),(d:Int))+C (at'+(3+m))≤acc.1
    omega
   ·show costT (0,((3+m:Nat):Int),(d:Int))+C (at'+(3+m))≤_
    rcases Nat.lt_or_ge k (3+m) with k3 | k3
    ·have:=h2 k k1 k3
     omega
    ·have:k=3+m:=by omega
     subst this
     exact Int.le_refl _
  ·rename_i q
   refine⟨h1,fun k k1 k2=>?_⟩
   rcases Nat.lt_or_ge k (3+m) with k3 | k3
   ·exact h2 k k1 k3
   ·have:k=3+m:=by omega
    subst this
    omega
theorem take_is {i:Nat} (h:i < N):Opt f N chain i (takeAt f N chain i)∧costAt f N chain i=costT (takeAt f N chain i)+costAt f N chain (i+sizeT (takeAt f N chain i)):=by
 have e:=tab_entry (f:=f) (chain:=chain) h
 unfold entry at e
 have e1:costAt f N chain i=(tab f N chain N i).1:=rfl
 have e2:takeAt f N chain i=(tab f N chain N i).2:=rfl
 rcases pickK_is (costAt f N chain) i (bestM f N i chain).2 (costT ((f i:Int),0,0)+costAt f N chain (i+1),((f i:Int),0,0)) ((bestM f N i chain).1 - 2) with q | ⟨k,h1,h2,q⟩
 ·rw[q] at e
  rw[e1,e2,e]
  exact⟨.inl rfl,rfl⟩
 ·rw[q] at e
  rw[e1,e2,e]
  refine⟨.inr ⟨k,h1,by omega,rfl⟩,?_⟩
  show costT (0,(k:Int),((bestM f N i chain).2:Int))+costAt f N chain (i+k)=costT (0,(k:Int),((bestM f N i chain).2:Int))+costAt f N chain (i+sizeT (0,(k:Int),((bestM f N i chain).2:Int)))
  rw[size_rep _ _ (by omega)]
theorem take_least {i:Nat} (h:i < N) {t:Tok} (ht:Opt f N chain i t):costAt f N chain i≤costT t+costAt f N chain (i+sizeT t):=by
 have e:=tab_entry (f:=f) (chain:=chain) h
 unfold entry at e
 have e1:costAt f N chain i=(tab f N chain N i).1:=rfl
 obtain⟨q1,q2⟩:=pickK_le (costAt f N chain) i (bestM f N i chain).2 (costT ((f i:Int),0,0)+costAt f N chain (i+1),((f i:Int),0,0)) ((bestM f N i chain).1 - 2)
 rw[e1,e]
 rcases ht with rfl | ⟨k,h1,h2,rfl⟩
 ·exact q1
 ·rw[size_rep _ _ (by omega)]
  exact q2 k h1 (by omega)
theorem opt_size {c:Nat→Tok} (hc:∀ i,i < N→Opt f N chain i (c i)):∀ i,i < N→1≤sizeT (c i):=fun i hi=>(fine_size (opt_fine (hc i hi)) hi).1
theorem take_opt:∀ i,i < N→Opt f N chain i (takeAt f N chain i):=fun _ hi=>(take_is hi).1
theorem bytes_cost:∀ m at',N - at'=m→costAt f N chain at'≤9 * ((N - at':Nat):Int):=by
 intro m
 induction m with
 | zero=>
  intro at' hm
  rw[cost_past (by omega)]
  omega
 | succ m ih=>
  intro at' hm
  have h1:=take_least (f:=f) (chain:=chain) (show at' < N by omega) (.inl rfl)
  have h2:=ih (at'+1) (by omega)
  rw[size_byte,cost_byte] at h1
  split at h1 <;> omega
theorem take_fine {i:Nat} (h:i < N):Fine f N i (takeAt f N chain i):=opt_fine (take_opt i h)
theorem cost_small:∀ m at',N - at'=m→0≤costAt f N chain at'∧costAt f N chain at'≤9 * (m:Int):=by
 intro m
 induction m using Nat.strongRecOn with
 | _ m ih=>
  intro at' hm
  refine⟨?_,by have:=bytes_cost (f:=f) (chain:=chain) m at' hm; omega⟩
  by_cases h:at' < N
  ·obtain⟨h1,h2⟩:=take_is (f:=f) (chain:=chain) h
   have h3:=opt_size (take_opt (f:=f) (N:=N) (chain:=chain)) at' h
   have h4:=(ih (N - (at'+sizeT (takeAt f N chain at'))) (by omega) (at'+sizeT (takeAt f N chain at')) rfl).1
   have h5:=(cost_range (takeAt f N chain at')).1
   omega
  ·rw[cost_past (by omega)]
   exact Int.le_refl _
end
end Go.Proofs.YtklpiihnbokkkaaGreatDoor.CheapMath

namespace Go.Proofs.YtklpiihnbokkkaaGreatDoor
open Go.RowKit Go.Joins TokMath
theorem info_byte:(Tryz.prog.info? 5).map (fun i=>(i.zero,i.size,i.bytes))=some (some (.int .u8 0),1,1):=by kernel_rfl
def bytesOf (s:ByteArray):List Int:=s.data.toList.map fun b=>(b.toNat:Int)
theorem bytesOf_length (s:ByteArray):(bytesOf s).length=s.size:=by simp [bytesOf]
theorem str_back (s:ByteArray):strOfNums (bytesOf s)=s:=by
 obtain⟨d⟩:=s
 have e:((bytesOf ⟨d⟩).map fun n=>UInt8.ofNat n.toNat)=d.toList:=by
  show (d.toList.map fun b=>(b.toNat:Int)).map (fun n=>UInt8.ofNat n.toNat)=d.toList
  rw[List.map_map]
  refine (List.map_congr_left (fun b _=>?_)).trans (List.map_id _)
  show UInt8.ofNat ((b.toNat:Int)).toNat=id b
  rw[Int.toNat_natCast,UInt8.ofNat_toNat]
  rfl
 unfold strOfNums
 rw[e]
end Go.Proofs.YtklpiihnbokkkaaGreatDoor

namespace Go.Proofs.YtklpiihnbokkkaaGreatDoor
open Go.RowKit TokMath SearchMath
def txt (s:ByteArray) (i:Nat):Nat:=(s.data[i]?.getD 0).toNat
theorem txt_lt (s:ByteArray) (i:Nat):txt s i < 256:=UInt8.toNat_lt _
theorem txt_get (s:ByteArray) (i:Nat) (h:i < s.size):(s[i]'h).toNat=txt s i:=by
 unfold txt
 have h':i < s.data.size:=h
 rw[Array.getElem?_eq_getElem h']
 rfl
end Go.Proofs.YtklpiihnbokkkaaGreatDoor

namespace Go.Proofs.YtklpiihnbokkkaaGreatDoor
open Go.RowKit TokMath SearchMath CheapMath
def bestOf (s:ByteArray) (t c:Int):Nat×Nat:=if s.size≤2600∧(0≤t∧t < (s.size:Int))∧(1≤c∧c≤64) then bestM (txt s) s.size t.toNat c.toNat else (0,0)
def WayRight (s:ByteArray) (c:Int):Prop:=s.size≤2600∧1≤c∧c≤64
def greedyL (s:ByteArray) (c:Int):List Tok:=wayL (greedyC (txt s) s.size c.toNat) s.size 0
def lazyL (s:ByteArray) (c:Int):List Tok:=wayL (lazyC (txt s) s.size c.toNat) s.size 0
def cheapL (s:ByteArray) (c:Int):List Tok:=wayL (takeAt (txt s) s.size c.toNat) s.size 0
def WayPost (L:List Tok) (w:World) (e:Ending) (w':World):Prop:=∃ (a:Option Addr) (cap:Nat),e=.returned (.tuple #[.slice a L.length cap,.bool true])∧TSL w' w.heap.size a L.length (fun j=>L.getD j (0,0,0))∧L.length≤cap∧Below w.heap.size w w'
def WayNone (w:World) (e:Ending) (w':World):Prop:=∃ (a:Option Addr) (cap:Nat),e=.returned (.tuple #[.slice a 0 cap,.bool false])∧(∀ g off,a=some ⟨g,off,none⟩→g < w'.heap.size)∧Below w.heap.size w w'
def WayAnswer (F : Nat) (way : ByteArray → Int → List Tok) : Prop := ∀ (s : ByteArray) (c : Int) (w : World), s.size ≤ 1048576 → (Lit.int .i64 c).wf = true →
    (WayRight s c → Calls Tryz.prog F #[.string s, .int .i64 c] w (WayPost (way s c) w)) ∧ (¬ WayRight s c → Calls Tryz.prog F #[.string s, .int .i64 c] w (WayNone w))
def GreedyAnswer:Prop:=WayAnswer 51 greedyL
def LazyAnswer:Prop:=WayAnswer 53 lazyL
def CheapAnswer:Prop:=WayAnswer 55 cheapL
theorem greedyL_length (s:ByteArray) (c:Int):(greedyL s c).length≤s.size:=by
 have:=way_length (c:=greedyC (txt s) s.size c.toNat) (N:=s.size) (fun i hi=>(fine_size (greedy_fine _ _ _ i) hi).1) s.size 0 rfl
 exact this
theorem lazyL_length (s:ByteArray) (c:Int):(lazyL s c).length≤s.size:=by
 have:=way_length (c:=lazyC (txt s) s.size c.toNat) (N:=s.size) (fun i hi=>(fine_size (lazy_fine _ _ _ i) hi).1) s.size 0 rfl
 exact this
theorem cheapL_length (s:ByteArray) (c:Int):(cheapL s c).length≤s.size:=by
 have:=way_length (c:=takeAt (txt s) s.size c.toNat) (N:=s.size) (fun i hi=>(fine_size (take_fine hi) hi).1) s.size 0 rfl
 exact this
end Go.Proofs.YtklpiihnbokkkaaGreatDoor

namespace Go.Proofs.YtklpiihnbokkkaaGreatDoor
open Go.RowKit TokMath SearchMath CheapMath DeflMath
def deflT (t:ByteArray) (lv:Nat):ByteArray:=
 if lv=0 then blkS (storedOut ⟨#[]⟩ 0 t true)
 else if lv=1 then blkS (fixedOut ⟨#[]⟩ 0 (greedyL t 4) true)
 else if lv=2 then blkS (bestOut ⟨#[]⟩ 0 t (lazyL t 16) true)
 else packC t (cheapL t 64)
def DeflRight (t:ByteArray) (lv:Int):Prop:=t.size≤2600∧0≤lv∧lv≤3
instance (t:ByteArray) (lv:Int):Decidable (DeflRight t lv):=inferInstanceAs (Decidable (_∧_∧_))
def deflAns (t:ByteArray) (lv:Int):Value:=if DeflRight t lv then .tuple #[.string (deflT t lv.toNat),.bool true] else .tuple #[.string ⟨#[]⟩,.bool false]
def DeflateAnswer:Prop:=∀ (t:ByteArray) (lv:Int) (w:World),t.size≤1048576→(Lit.int .i64 lv).wf=true→OrderG w→
 Calls Tryz.prog 10 #[.string t,.int .i64 lv] w fun e w'=>e=.returned (deflAns t lv)∧Below w.heap.size w w'
end Go.Proofs.YtklpiihnbokkkaaGreatDoor

namespace Go.Proofs.YtklpiihnbokkkaaGreatDoor
open Go.RowKit BigTextMath DeflMath OutMath
def headN (lv:Nat):Int:=if lv=0 then 30721 else if lv=1 then 30814 else if lv=2 then 30876 else 30938
def zlibT (t:ByteArray) (lv:Nat):ByteArray:=strOfNums (low (headN lv) 2) ++ deflT t lv ++ strOfNums (low (AdlerMath.adler 1 t) 4)
def zlibAns (t:ByteArray) (lv:Int):Value:=if DeflRight t lv then .tuple #[.string (zlibT t lv.toNat),.bool true] else .tuple #[.string ⟨#[]⟩,.bool false]
def ZlibAnswer:Prop:=∀ (t:ByteArray) (lv:Int) (w:World),t.size≤1048576→(Lit.int .i64 lv).wf=true→OrderG w→
 Calls Tryz.prog 12 #[.string t,.int .i64 lv] w fun e w'=>e=.returned (zlibAns t lv)∧Below w.heap.size w w'
def SpecDefl:Prop:=∀ (t:ByteArray) (lv:Int) (w:World),t.size≤1048576→Calls Tryz.prog 14 #[.string t,.int .i64 lv] w fun e w'=>e=.returned (deflAns t lv)∧Below w.heap.size w w'
theorem headN_range (lv:Nat):30720≤headN lv∧headN lv < 30976:=by
 unfold headN
 repeat' split
 all_goals omega
theorem adler_range (t:ByteArray):0≤AdlerMath.adler 1 t∧AdlerMath.adler 1 t < 4294967296:=by
 have hp:=AdlerMath.adP_bd t (1 % 65536 % 65521) (by omega) (by omega) t.size
 have hq:=AdlerMath.adQ_bd t (1 % 65536 % 65521) (1 / 65536 % 65521) (by omega) (by omega) t.size
 unfold AdlerMath.adler
 omega
theorem blkS_size {o:Option (ByteArray×Nat)} (h:∀ x,o=some x→outB x.1 x.2=true):(blkS o).size≤12000:=by
 cases o with
 | none=>exact Nat.zero_le _
 | some x=>exact (fits_of_outB _ _ (h x rfl)).1
theorem best_size (t:ByteArray) (L:List TokMath.Tok) (ht:t.size≤2600):(blkS (bestOut ⟨#[]⟩ 0 t L true)).size≤12000:=by
 obtain⟨o,ho,_,hr,_⟩:=best_some (s:=⟨#[]⟩) (c:=0) (t:=t) L true empty_out ht (by omega)
 refine blkS_size fun x hx=>?_
 rw[show ((0:Nat):Int)=0 from rfl] at ho
 rw[ho] at hx
 cases hx
 exact hr
theorem deflT_size (t:ByteArray) (lv:Nat) (ht:t.size≤2600):(deflT t lv).size≤12000:=by
 unfold deflT
 split
 ·obtain⟨o,ho,_,hr⟩:=stored_some (s:=⟨#[]⟩) (c:=0) (t:=t) true empty_out ht (by omega)
  refine blkS_size fun x hx=>?_
  rw[show ((0:Nat):Int)=0 from rfl] at ho
  rw[ho] at hx
  cases hx
  exact hr
 ·split
  ·exact blkS_size fun x hx=>fixed_right (c:=0) hx
  ·split
   ·exact best_size t _ ht
   ·have hb:=best_size t (cheapL t 64) ht
    unfold packC
    generalize (if cheapL t 64=[] then blkS (bestOut ⟨#[]⟩ 0 t (cheapL t 64) true) else blkS (partsSt t (cheapL t 64) (partsN (cheapL t 64))))=y
    unfold shorter
    split
    ·omega
    ·exact hb
end Go.Proofs.YtklpiihnbokkkaaGreatDoor

namespace Go.Proofs.YtklpiihnbokkkaaGreatDoor
open Go.RowKit Go.Joins DeflMath
theorem zlibAns_form (t:ByteArray) (lv:Int):∃ s b,zlibAns t lv=.tuple #[.string s,.bool b]:=by
 unfold zlibAns
 split
 ·exact⟨_,_,rfl⟩
 ·exact⟨_,_,rfl⟩
set_option maxHeartbeats 800000 in
theorem FnExactZlibOf_over (hA:ZlibAnswer) (hM:∀ (t:ByteArray) (lv:Int) (w:World),t.size≤1048576→Calls Tryz.prog 15 #[.string t,.int .i64 lv] w fun e w'=>e=.returned (zlibAns t lv)∧Below w.heap.size w w')
  (t:ByteArray) (lv:Int) (w:World) (_hs:t.size≤maxLen) (hc:(Lit.int .i64 lv).wf=true) (hG:OrderG w):
  Calls Tryz.prog 6 #[.string t,.int .i64 lv] w fun e w'=>e=.returned (.bool true)∧Below w.heap.size w w':=by
 by_cases h:t.size≤1048576
 ·have d:decide ((1048576:Int) < (t.size:Int))=false:=decide_eq_false (by omega)
  have d':decide (1048576 < t.size)=false:=decide_eq_false (by omega)
  have HM:=hid_of fun W=>hM t lv W h
  have HA:=hid_of fun W hG=>hA t lv W h hc hG
  have HG:=hid_of hG
  obtain⟨s,b,e⟩:=zlibAns_form t lv
  rw[e] at HM HA
  clear hA hM e hG
  go_enter Tryz.func6,Tryz.ntmps6
  go_wp2_with fail
  refine (HM.out _).mono ?_
  rintro e w1 ⟨rfl,hB1⟩
  have HB1:=hid_of hB1
  clear hB1
  go_wp2_with fail
  refine (HA.out w1 (HG.out.below HB1.out HG.out.1)).mono ?_
  rintro e w2 ⟨rfl,hB2⟩
  have HB2:=hid_of (bnext HB1.out hB2)
  clear hB2
  go_wp2_with fail
  go_ret
  exact⟨rfl,HB2.out⟩
 ·have d:decide ((1048576:Int) < (t.size:Int))=true:=decide_eq_true (by omega)
  have d':decide (1048576 < t.size)=true:=decide_eq_true (by omega)
  clear hA hM
  go_enter Tryz.func6,Tryz.ntmps6
  go_wp2_with fail
  go_ret
  exact⟨rfl,Below.refl _ _⟩
end Go.Proofs.YtklpiihnbokkkaaGreatDoor

namespace Go.Proofs.YtklpiihnbokkkaaGreatDoor
open Go.RowKit Go.Joins AdlerMath
theorem newAdler_any (x:Int) (w:World) (h0:0≤x) (h1:x≤4294967295):
  Calls Tryz.prog 28 #[.int .u32 x] w fun e w'=>e=.returned (.agg #[.int .i64 (x % 65536 % 65521),.int .i64 (x / 65536 % 65521)])∧Below w.heap.size w w':=by
 have k:=and_low x h0 h1
 go_enter Tryz.func28,Tryz.ntmps28
 go_wp2
 exact bodyPost_ret (v:=.agg #[.int .i64 (x % 65536 % 65521),.int .i64 (x / 65536 % 65521)]) (by simp [results,Tryz.results28,go_sem]) rfl ⟨rfl,bstart _ _⟩
end Go.Proofs.YtklpiihnbokkkaaGreatDoor

namespace Go.Proofs.YtklpiihnbokkkaaGreatDoor
open Go.RowKit
theorem ret_i {k:IntKind} {a b:Int} (h:a=b):Ending.returned (.int k a)=.returned (.int k b):=by rw [h]
theorem ret_b {a b:Bool} (h:a=b):Ending.returned (.bool a)=.returned (.bool b):=by rw [h]
end Go.Proofs.YtklpiihnbokkkaaGreatDoor

namespace Go.Proofs.YtklpiihnbokkkaaGreatDoor
open Go.RowKit Go.Joins OutMath
set_option maxHeartbeats 400000 in
theorem pow_any (n:Nat) (w:World) (h:n≤61):
  Calls Tryz.prog 106 #[.int .i64 n] w fun e w'=>e=.returned (.int .i64 (p2 n))∧w'=w:=by
 go_enter Tryz.func106,Tryz.ntmps106
 go_wp2
 go_loop [3,4] (fun x i=>∃ j:Nat,j≤n∧i=.int .i64 j∧x=.int .i64 (p2 j)) (fun _ i=>n - (intOf i).toNat)
 case atStart=>exact⟨0,Nat.zero_le _,rfl,by rw [p2_zero]⟩
 case round=>
  obtain⟨j,hj,rfl,rfl⟩:=hrel
  have hp:=p2_pos j
  have hq:=p2_61 (n:=j) (by omega)
  by_cases hlt:j < n
  ·go_wp2
   go_round
   case rel=>exact⟨j+1,by omega,by go_num,by rw [p2_succ]⟩
   case measure=>simp [intOf]; omega
  ·go_wp2
   go_ret
   exact⟨ret_i (by rw [show j=n by omega]),rfl⟩
theorem pow_int (n:Int) (w:World) (h0:0≤n) (h:n≤61):
  Calls Tryz.prog 106 #[.int .i64 n] w fun e w'=>e=.returned (.int .i64 (p2 n.toNat))∧w'=w:=by
 obtain⟨m,rfl⟩:=Int.eq_ofNat_of_zero_le h0
 exact pow_any m w (by omega)
end Go.Proofs.YtklpiihnbokkkaaGreatDoor

namespace Go.Proofs.YtklpiihnbokkkaaGreatDoor
open Go.RowKit Go.Joins OutMath
theorem index_last (s:ByteArray) (h:0 < s.size) (w:World):(Instr.index 9 (.string s) (.int .i64 ((s.size:Int) - 1))).run Tryz.prog w=.ok (.int .u8 (last s)) w:=by
 rw[run_index_string w 9 s .i64 _ Tryz.underlying9,dif_pos ⟨by omega,by omega⟩]
 have e:((s.size:Int) - 1).toNat=s.size - 1:=by omega
 simp only [e]
 rw[last_at]
end Go.Proofs.YtklpiihnbokkkaaGreatDoor

namespace Go.Proofs.YtklpiihnbokkkaaGreatDoor
open Go.RowKit Go.Joins OutMath
set_option maxHeartbeats 400000 in
theorem specOut_fit0 (s:ByteArray) (c:Int) (w:World) (h:Fits s c) (hc:c % 8=0):
  Calls Tryz.prog 101 #[.agg #[.string s,.int .i64 c]] w fun e w'=>e=.returned (.bool true)∧Below w.heap.size w w':=by
 obtain⟨h1,h2,h3,h4⟩:=h
 have d1:decide ((12000:Int) < s.size)=false:=by simp; omega
 have d2:decide (c < 0)=false:=by simp; omega
 have d3:decide (8 * (s.size:Int) < c)=false:=by simp; omega
 have d4:((c+7) / 8 != (s.size:Int))=false:=by simp; omega
 have d5:(c % 8 == 0)=true:=by simp; omega
 clear h4 hc
 go_enter Tryz.func101,Tryz.ntmps101
 go_wp2
 go_quiet (fail)
 go_wp2
 go_ret
 exact⟨rfl,(below_alloc1 _ _).trans (below_draws _ _ _)⟩
set_option maxHeartbeats 400000 in
theorem specOut_fit1 (s:ByteArray) (c:Int) (w:World) (h:Fits s c) (hc:¬ c % 8=0):
  Calls Tryz.prog 101 #[.agg #[.string s,.int .i64 c]] w fun e w'=>e=.returned (.bool (lastOk s c))∧Below w.heap.size w w':=by
 obtain⟨h1,h2,h3,h4⟩:=h
 have d1:decide ((12000:Int) < s.size)=false:=by simp; omega
 have d2:decide (c < 0)=false:=by simp; omega
 have d3:decide (8 * (s.size:Int) < c)=false:=by simp; omega
 have d4:((c+7) / 8 != (s.size:Int))=false:=by simp; omega
 have d5:(c % 8 == 0)=false:=by simp; omega
 have d6:0 < s.size:=by omega
 have d7:(0:Int)≤(s.size:Int) - 1∧(s.size:Int) - 1 < s.size:=by omega
 have ht:c.tmod 8=c % 8:=Int.tmod_eq_emod_of_nonneg h2
 have hw1:IntKind.i64.wrap ((s.size:Int) - 1)=(s.size:Int) - 1:=by rw [IntKind.wrap_i64]; omega
 have hix:=index_last s d6
 have hlt:=last_lt s
 clear h4 hc
 go_enter Tryz.func101,Tryz.ntmps101
 go_wp2
 go_quiet ((go_at_call 106; exact Calls.quiet_of_same (pow_int _ _ (by omega) (by omega))))
 go_wp2
 go_ret
 exact⟨rfl,(below_alloc1 _ _).trans (below_draws _ _ _)⟩
set_option maxHeartbeats 400000 in
theorem specOut_no (s:ByteArray) (c:Int) (w:World) (hs:s.size≤maxLen) (hc1:-9223372036854775808≤c) (hc2:c≤9223372036854775807) (h:¬ Fits s c):
  Calls Tryz.prog 101 #[.agg #[.string s,.int .i64 c]] w fun e w'=>e=.returned (.bool false)∧Below w.heap.size w w':=by
 unfold maxLen at hs
 unfold Fits at h
 by_cases h1:(12000:Int) < s.size
 ·clear h
  go_enter Tryz.func101,Tryz.ntmps101
  go_wp2
  go_ret
  exact⟨rfl,below_alloc1 _ _⟩
 ·have d1:decide ((12000:Int) < s.size)=false:=by simpa using h1
  by_cases h2:c < 0
  ·clear h
   go_enter Tryz.func101,Tryz.ntmps101
   go_wp2
   go_ret
   exact⟨rfl,below_alloc1 _ _⟩
  ·have d2:decide (c < 0)=false:=by simpa using h2
   by_cases h3:8 * (s.size:Int) < c
   ·clear h
    go_enter Tryz.func101,Tryz.ntmps101
    go_wp2
    go_ret
    exact⟨rfl,below_alloc1 _ _⟩
   ·have d3:decide (8 * (s.size:Int) < c)=false:=by simpa using h3
    have d4:((c+7) / 8 != (s.size:Int))=true:=by rw [bne_iff_ne]; omega
    clear h
    go_enter Tryz.func101,Tryz.ntmps101
    go_wp2
    go_ret
    exact⟨rfl,below_alloc1 _ _⟩
theorem specOut_any (s:ByteArray) (c:Int) (w:World) (hs:s.size≤maxLen) (hc1:-9223372036854775808≤c) (hc2:c≤9223372036854775807):
  Calls Tryz.prog 101 #[.agg #[.string s,.int .i64 c]] w fun e w'=>e=.returned (.bool (outB s c))∧Below w.heap.size w w':=by
 by_cases h:Fits s c
 ·by_cases hc:c % 8=0
  ·rw[outB_fit0 s c h hc]; exact specOut_fit0 s c w h hc
  ·rw[outB_fit1 s c h hc]; exact specOut_fit1 s c w h hc
 ·rw[outB_no s c h]; exact specOut_no s c w hs hc1 hc2 h
end Go.Proofs.YtklpiihnbokkkaaGreatDoor

namespace Go.Proofs.YtklpiihnbokkkaaGreatDoor
open Go.RowKit Go.Joins OutMath
theorem bytesFor_any (c:Int) (w:World) (h1:0≤c) (h2:c≤96000):
  Calls Tryz.prog 27 #[.int .i64 c] w fun e w'=>e=.returned (.int .i64 ((c+7) / 8))∧w'=w:=by
 go_enter Tryz.func27,Tryz.ntmps27
 go_wp2
 go_ret
 exact⟨rfl,rfl⟩
set_option maxHeartbeats 400000 in
theorem implOut_fit0 (s:ByteArray) (c:Int) (w:World) (h:Fits s c) (hc:c % 8=0):
  Calls Tryz.prog 117 #[.agg #[.string s,.int .i64 c]] w fun e w'=>e=.returned (.bool true)∧Below w.heap.size w w':=by
 obtain⟨h1,h2,h3,h4⟩:=h
 have d2:decide (c < 0)=false:=by simp; omega
 have d3:decide ((96000:Int) < c)=false:=by simp; omega
 have d4:((s.size:Int) != (c+7) / 8)=false:=by simp; omega
 have d5:(c % 8 == 0)=true:=by simp; omega
 have ht:c.tmod 8=c % 8:=Int.tmod_eq_emod_of_nonneg h2
 have hc9:c≤96000:=by omega
 clear h4 hc
 go_enter Tryz.func117,Tryz.ntmps117
 go_wp2
 go_quiet ((go_at_call 27; exact Calls.quiet_of_same (bytesFor_any _ _ (by omega) (by omega))))
 go_wp2
 go_ret
 exact⟨rfl,(below_alloc1 _ _).trans (below_draws _ _ _)⟩
set_option maxHeartbeats 400000 in
theorem implOut_fit1 (s:ByteArray) (c:Int) (w:World) (h:Fits s c) (hc:¬ c % 8=0):
  Calls Tryz.prog 117 #[.agg #[.string s,.int .i64 c]] w fun e w'=>e=.returned (.bool (lastOk s c))∧Below w.heap.size w w':=by
 obtain⟨h1,h2,h3,h4⟩:=h
 have d2:decide (c < 0)=false:=by simp; omega
 have d3:decide ((96000:Int) < c)=false:=by simp; omega
 have d4:((s.size:Int) != (c+7) / 8)=false:=by simp; omega
 have d5:(c % 8 == 0)=false:=by simp; omega
 have d6:0 < s.size:=by omega
 have ht:c.tmod 8=c % 8:=Int.tmod_eq_emod_of_nonneg h2
 have hc9:c≤96000:=by omega
 have hix:=index_last s d6
 have hlt:=last_lt s
 have hlo:=lastOk_div s c
 clear h4 hc
 go_enter Tryz.func117,Tryz.ntmps117
 go_wp2
 go_quiet ((go_at_call 27; exact Calls.quiet_of_same (bytesFor_any _ _ (by omega) (by omega))))
 have HL:Hid (lastOk s c=(((last s:Nat):Int) / 2 ^ (c % 8).toNat == 0)):=hlo
 clear hlo
 go_wp2
 go_ret
 exact⟨ret_b HL.out.symm,(below_alloc1 _ _).trans (below_draws _ _ _)⟩
set_option maxHeartbeats 400000 in
theorem implOut_no (s:ByteArray) (c:Int) (w:World) (hs:s.size≤maxLen) (hc1:-9223372036854775808≤c) (hc2:c≤9223372036854775807) (h:¬ Fits s c):
  Calls Tryz.prog 117 #[.agg #[.string s,.int .i64 c]] w fun e w'=>e=.returned (.bool false)∧Below w.heap.size w w':=by
 unfold maxLen at hs
 unfold Fits at h
 by_cases h2:c < 0
 ·have d2:decide (c < 0)=true:=by simpa using h2
  clear h
  go_enter Tryz.func117,Tryz.ntmps117
  go_wp2
  go_quiet (fail)
  go_wp2
  go_ret
  exact⟨rfl,(below_alloc1 _ _).trans (below_draws _ _ _)⟩
 ·have d2:decide (c < 0)=false:=by simpa using h2
  by_cases h3:(96000:Int) < c
  ·have d3:decide ((96000:Int) < c)=true:=by simpa using h3
   clear h
   go_enter Tryz.func117,Tryz.ntmps117
   go_wp2
   go_quiet (fail)
   go_wp2
   go_ret
   exact⟨rfl,(below_alloc1 _ _).trans (below_draws _ _ _)⟩
  ·have d3:decide ((96000:Int) < c)=false:=by simpa using h3
   have d4:((s.size:Int) != (c+7) / 8)=true:=by rw [bne_iff_ne]; omega
   clear h
   go_enter Tryz.func117,Tryz.ntmps117
   go_wp2
   go_quiet ((go_at_call 27; exact Calls.quiet_of_same (bytesFor_any _ _ (by omega) (by omega))))
   go_wp2
   go_ret
   exact⟨rfl,(below_alloc1 _ _).trans (below_draws _ _ _)⟩
theorem implOut_any (s:ByteArray) (c:Int) (w:World) (hs:s.size≤maxLen) (hc1:-9223372036854775808≤c) (hc2:c≤9223372036854775807):
  Calls Tryz.prog 117 #[.agg #[.string s,.int .i64 c]] w fun e w'=>e=.returned (.bool (outB s c))∧Below w.heap.size w w':=by
 by_cases h:Fits s c
 ·by_cases hc:c % 8=0
  ·rw[outB_fit0 s c h hc]; exact implOut_fit0 s c w h hc
  ·rw[outB_fit1 s c h hc]; exact implOut_fit1 s c w h hc
 ·rw[outB_no s c h]; exact implOut_no s c w hs hc1 hc2 h
end Go.Proofs.YtklpiihnbokkkaaGreatDoor

namespace Go.Proofs.YtklpiihnbokkkaaGreatDoor
open Go.RowKit
theorem in_yes (x a b:Int) (w:World) (h1:a≤x) (h2:x≤b):
  Calls Tryz.prog 37 #[.int .i64 x,.int .i64 a,.int .i64 b] w fun e w'=>e=.returned (.bool true)∧w'=w:=by
 go_enter Tryz.func37,Tryz.ntmps37
 go_wp2
 go_ret
 exact⟨rfl,rfl⟩
theorem in_no (x a b:Int) (w:World) (h:¬ (a≤x∧x≤b)):
  Calls Tryz.prog 37 #[.int .i64 x,.int .i64 a,.int .i64 b] w fun e w'=>e=.returned (.bool false)∧w'=w:=by
 by_cases h1:a≤x
 ·have h2:¬ x≤b:=fun k=>h ⟨h1,k⟩
  clear h
  go_enter Tryz.func37,Tryz.ntmps37
  go_wp2
  go_ret
  exact⟨rfl,rfl⟩
 ·clear h
  go_enter Tryz.func37,Tryz.ntmps37
  go_wp2
  go_ret
  exact⟨rfl,rfl⟩
end Go.Proofs.YtklpiihnbokkkaaGreatDoor

namespace Go.Proofs.YtklpiihnbokkkaaGreatDoor
open Go.RowKit
theorem size_yes (x:Int) (w:World) (h1:1≤x) (h2:x≤4):
  Calls Tryz.prog 60 #[.int .i64 x] w fun e w'=>e=.returned (.bool true)∧w'=w:=by
 go_enter Tryz.func60,Tryz.ntmps60
 go_wp2
 go_ret
 exact⟨rfl,rfl⟩
end Go.Proofs.YtklpiihnbokkkaaGreatDoor

namespace Go.Proofs.YtklpiihnbokkkaaGreatDoor
open Go.RowKit Go.Joins OutMath BigTextMath
theorem ret_sb {a b:List Int} {c:Bool} (h:a=b):Ending.returned (.tuple #[.string (strOfNums a),.bool c])=.returned (.tuple #[.string (strOfNums b),.bool c]):=by rw [h]
theorem conv1 (x:Int) (w:World):(convert 22 9 (.slice (some ⟨w.heap.size,0,none⟩) 1 1)).run Tryz.prog (w.alloc (.cells #[.int .u8 x] 5))=.ok (.string (strOfNums [x])) (w.alloc (.cells #[.int .u8 x] 5)):=by
 refine run_convert_bytes_arg _ 22 5 Tryz.underlying22 Tryz.underlying5 w.heap.size 0 1 1 [x] rfl ?_ 9 Tryz.underlying9
 intro i hi
 obtain rfl:i=0:=by omega
 simp
set_option maxHeartbeats 400000 in
theorem l01Big_any (n:Int) (k:Nat) (w:World) (h0:0≤n) (h1:n≤9223372036854775807) (h4:k≤4):
  Calls Tryz.prog 73 #[.int .i64 n,.int .i64 k] w fun e w'=>e=.returned (.string (strOfNums (low n k)))∧Below w.heap.size w w':=by
 go_enter Tryz.func73,Tryz.ntmps73
 go_wp2
 go_loopw [0,5,6] (fun x s i w'=>∃ j:Nat,j≤k∧i=.int .i64 j∧x=.int .i64 (n / q256 j)∧s=.string (strOfNums (low n j))∧Below w.heap.size w w') (fun _ _ i _=>k - (intOf i).toNat)
 case atStart=>exact⟨0,Nat.zero_le _,rfl,by simp [q256],rfl,Below.refl _ _⟩
 case round=>
  obtain⟨j,hj,rfl,rfl,rfl,hb⟩:=hrel
  have n0:=div_nonneg n h0 j
  have n1:=div_le n h0 j
  have HD:Hid (n / q256 j / 256=n / q256 (j+1)):=div_succ n j
  have HL:Hid (strOfNums [n / q256 j % 256] ++ strOfNums (low n j)=strOfNums (low n (j+1))):=strOfNums_cons _ _
  have z1:(strOfNums [n / q256 j % 256]).size=1:=strOfNums_size _
  have z2:(strOfNums (low n j)).size=j:=(strOfNums_size _).trans (low_length n j)
  have kc:=conv1 (n / q256 j % 256)
  by_cases hlt:j < k
  ·go_wp2
   go_roundw
   case rel=>exact⟨j+1,by omega,by go_num,by rw [HD.out],by rw [HL.out],bal hb _⟩
   case measure=>simp [intOf]; omega
  ·go_wp2
   go_ret
   obtain rfl:j=k:=by omega
   exact⟨rfl,hb⟩
theorem conv2 (x0 x1:Int) (w:World):(convert 22 9 (.slice (some ⟨w.heap.size,0,none⟩) 2 2)).run Tryz.prog (w.alloc (.cells #[.int .u8 x0,.int .u8 x1] 5))=.ok (.string (strOfNums [x0,x1])) (w.alloc (.cells #[.int .u8 x0,.int .u8 x1] 5)):=by
 refine run_convert_bytes_arg _ 22 5 Tryz.underlying22 Tryz.underlying5 w.heap.size 0 2 2 [x0,x1] rfl ?_ 9 Tryz.underlying9
 intro i hi
 have hi4:i=0∨i=1:=by omega
 rcases hi4 with rfl | rfl <;> simp
theorem make2 (w:World):(Instr.makeSlice 22 (.int .i64 2) (.int .i64 2)).run Tryz.prog w=.ok (.slice (some ⟨w.heap.size,0,none⟩) 2 2) (w.alloc (.cells #[.int .u8 0,.int .u8 0] 5)):=by kernel_rfl
set_option maxHeartbeats 800000 in
theorem implBig_yes2 (n:Int) (w:World) (h0:0≤n) (hn:n < 65536):
  Calls Tryz.prog 59 #[.int .i64 n,.int .i64 2] w fun e w'=>e=.returned (.tuple #[.string (strOfNums (low n 2)),.bool true])∧Below w.heap.size w w':=by
 have d1:decide (n < 0)=false:=by simp; omega
 have d2:decide ((65536:Int)≤n)=false:=by simp; omega
 have hmk:=make2
 have kc:=conv2
 have HL:Hid (low n 2=_):=low2 n h0 hn
 go_enter Tryz.func59,Tryz.ntmps59
 go_wp2_with fail
 refine (size_yes _ _ (by omega) (by omega)).mono ?_
 rintro e w1 ⟨rfl,rfl⟩
 go_wp2_with fail
 refine wp_loop_rounds 3 ?_
 iterate 3 (rw [rounds_succ]; go_wp2)
 go_ret2
 exact⟨ret_sb HL.out.symm,bstart _ _⟩
theorem conv4 (x0 x1 x2 x3:Int) (w:World):(convert 22 9 (.slice (some ⟨w.heap.size,0,none⟩) 4 4)).run Tryz.prog (w.alloc (.cells #[.int .u8 x0,.int .u8 x1,.int .u8 x2,.int .u8 x3] 5))=.ok (.string (strOfNums [x0,x1,x2,x3])) (w.alloc (.cells #[.int .u8 x0,.int .u8 x1,.int .u8 x2,.int .u8 x3] 5)):=by
 refine run_convert_bytes_arg _ 22 5 Tryz.underlying22 Tryz.underlying5 w.heap.size 0 4 4 [x0,x1,x2,x3] rfl ?_ 9 Tryz.underlying9
 intro i hi
 have hi4:i=0∨i=1∨i=2∨i=3:=by omega
 rcases hi4 with rfl | rfl | rfl | rfl <;> simp
theorem make4 (w:World):(Instr.makeSlice 22 (.int .i64 4) (.int .i64 4)).run Tryz.prog w=.ok (.slice (some ⟨w.heap.size,0,none⟩) 4 4) (w.alloc (.cells #[.int .u8 0,.int .u8 0,.int .u8 0,.int .u8 0] 5)):=by kernel_rfl
set_option maxHeartbeats 800000 in
theorem implBig_yes4 (n:Int) (w:World) (h0:0≤n) (hn:n < 4294967296):
  Calls Tryz.prog 59 #[.int .i64 n,.int .i64 4] w fun e w'=>e=.returned (.tuple #[.string (strOfNums (low n 4)),.bool true])∧Below w.heap.size w w':=by
 have d1:decide (n < 0)=false:=by simp; omega
 have d2:decide ((4294967296:Int)≤n)=false:=by simp; omega
 have hmk:=make4
 have kc:=conv4
 have HL:Hid (low n 4=_):=low4 n h0 hn
 go_enter Tryz.func59,Tryz.ntmps59
 go_wp2_with fail
 refine (size_yes _ _ (by omega) (by omega)).mono ?_
 rintro e w1 ⟨rfl,rfl⟩
 go_wp2_with fail
 refine wp_loop_rounds 5 ?_
 iterate 5 (rw [rounds_succ]; go_wp2)
 go_ret2
 exact⟨ret_sb HL.out.symm,bstart _ _⟩
theorem p2_8:p2 8=256:=by decide +kernel
end Go.Proofs.YtklpiihnbokkkaaGreatDoor
