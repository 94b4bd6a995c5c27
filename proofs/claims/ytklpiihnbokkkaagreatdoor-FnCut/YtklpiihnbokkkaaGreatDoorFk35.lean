/-
  Texts of the proof, put together.
-/
import Derived.Test.YtklpiihnbokkkaaGreatDoorFk34
namespace Go.Proofs.YtklpiihnbokkkaaGreatDoor
open Go.RowKit Go.Joins PackageMath
theorem make_coins (w:World) (n c:Nat) (hnc:n≤c) (hn:c≤100000):(Instr.makeSlice 270 (.int .i64 n) (.int .i64 c)).run Tryz.prog w=.ok (.slice (some ⟨w.heap.size,0,none⟩) n c) (w.alloc (.cells (madeCells #[.int .i64 0,.int .i64 0] (c * 2)) 274)):=by
 obtain⟨i0,hi0,hz0,hz1,hz2⟩:=info_parts info_coin
 have h:=run_make (P:=Tryz.prog) w 270 274 i0 (.agg #[.int .i64 0,.int .i64 0]) Tryz.underlying270 hi0 hz0 .i64 .i64 n c (by omega) (by omega) (by rw [hz2]; omega) (by omega)
 rw[hz1,Int.toNat_natCast,Int.toNat_natCast] at h
 exact h
theorem row_of_cells:∀ (L:List Coin) (l:List Value),l.length=L.length * 2→(∀ i,i < L.length→l[i * 2]?=some (.int .i64 (L.getD i (0,[])).1)∧l[i * 2+1]?=some (.int .i64 (sy (L.getD i (0,[])))))→l=ccells L:=by
 intro L l hl h
 refine List.ext_getElem? (fun j=>?_)
 rcases Nat.lt_or_ge j (L.length * 2) with k | k
 ·obtain⟨q,hq⟩:∃ q,j=q * 2∨j=q * 2+1:=⟨j / 2,by omega⟩
  rcases hq with rfl | rfl
  ·rw[(h q (by omega)).1,ccells_get0 L q (by omega)]
  ·rw[(h q (by omega)).2,ccells_get1 L q (by omega)]
 ·rw[List.getElem?_eq_none (by omega),List.getElem?_eq_none (by rw [ccells_length]; exact k)]
def PaiSt (w w':World) (l:List Coin) (j:Nat):Prop:=Below w.heap.size w w'∧∃ cur,w'.heap[w.heap.size]?=some (.cells cur 274 (0,0))∧cur.size=l.length / 2 * 2∧∀ i,i < j→cur[i * 2]?=some (.int .i64 ((pairs l).getD i (0,[])).1)∧cur[i * 2+1]?=some (.int .i64 (-1))
theorem pairs_at {l:List Coin} {i:Nat} (h:i < l.length / 2):((pairs l).getD i (0,[])).1=(l.getD (2 * i) (0,[])).1+(l.getD (2 * i+1) (0,[])).1:=by
 have e:=pairs_here (l:=l) (t:=i) (by omega)
 have e2:(pairs l).getD i (0,[])=((pairs l).drop i).getD 0 (0,[]):=by
  rw[List.getD_eq_getElem?_getD,List.getD_eq_getElem?_getD,List.getElem?_drop,Nat.add_zero]
 rw[e2,e]
 rfl
theorem pai_next {w w':World} {l:List Coin} {j:Nat} {x:Int} (h:PaiSt w w' l j) (hj:j < l.length / 2) (hx:((pairs l).getD j (0,[])).1=x):PaiSt w ((w'.setCell ⟨w.heap.size,j * 2,none⟩ (.int .i64 x)).setCell ⟨w.heap.size,j * 2+1,none⟩ (.int .i64 (-1))).drew l (j+1):=by
 obtain⟨h1,cur,h2,h3,h4⟩:=h
 refine⟨((h1.setCell (p:=⟨w.heap.size,j * 2,none⟩) (Nat.le_refl _) _).setCell (p:=⟨w.heap.size,j * 2+1,none⟩) (Nat.le_refl _) _).drew,(cur.setIfInBounds (j * 2) (.int .i64 x)).setIfInBounds (j * 2+1) (.int .i64 (-1)),?_,by simpa using h3,fun i hi=>?_⟩
 ·show ((w'.setCell ⟨w.heap.size,j * 2,none⟩ (.int .i64 x)).setCell ⟨w.heap.size,j * 2+1,none⟩ (.int .i64 (-1))).heap[w.heap.size]?=_
  simp[World.setCell,Array.getElem?_modify,h2]
 ·by_cases e:i=j
  ·subst e
   rw[hx]
   refine⟨?_,?_⟩
   ·rw[Array.getElem?_setIfInBounds_ne (by omega),Array.getElem?_setIfInBounds_self_of_lt (by omega)]
   ·rw[Array.getElem?_setIfInBounds_self_of_lt (by simp; omega)]
  ·obtain⟨k1,k2⟩:=h4 i (by omega)
   refine⟨?_,?_⟩
   ·rw[Array.getElem?_setIfInBounds_ne (by omega),Array.getElem?_setIfInBounds_ne (by omega)]; exact k1
   ·rw[Array.getElem?_setIfInBounds_ne (by omega),Array.getElem?_setIfInBounds_ne (by omega)]; exact k2
theorem pai_cell {w w':World} {l:List Coin} {j:Nat} (h:PaiSt w w' l j):w.heap.size < w'.heap.size∧(∀ k,w'.frozen? ⟨w.heap.size,k,none⟩=false)∧(∀ k,k < l.length / 2 * 2→∃ u,w'.cell? ⟨w.heap.size,k,none⟩=some u):=by
 obtain⟨h1,cur,h2,h3,h4⟩:=h
 refine⟨block_lt h2,fun k=>by simp [World.frozen?,h2],fun k hk=>?_⟩
 rw[cell_of_block h2]
 exact⟨cur[k]'(by omega),Array.getElem?_eq_getElem (by omega)⟩
theorem pai_done {w w':World} {l:List Coin} (h:PaiSt w w' l (l.length / 2)) (hp:∀ x∈pairs l,2≤x.2.length) (hl:l.length≤100000):w'.ownsRow w.heap.size 274 2 (.slice (some ⟨w.heap.size,0,none⟩) (l.length / 2) (l.length / 2)) (l.length / 2) (ccells (pairs l)):=by
 obtain⟨h1,cur,h2,h3,h4⟩:=h
 have hpl:=pairs_length l
 refine⟨by rw [ccells_length,hpl],.inr ⟨w.heap.size,l.length / 2,cur,rfl,Nat.le_refl _,h2,Nat.le_refl _,by unfold maxLen; omega,h3,?_⟩⟩
 rw[List.take_of_length_le (by rw [Array.length_toList,h3]; exact Nat.le_refl _)]
 refine row_of_cells _ _ (by rw [Array.length_toList,h3,hpl]) (fun i hi=>?_)
 have q:=h4 i (by omega)
 rw[Array.getElem?_toList,Array.getElem?_toList,sy_more (hp _ (getD_mem hi))]
 exact q
set_option maxHeartbeats 1600000 in
theorem paired_any (a:Option Addr) (c:Nat) (l:List Coin) (w:World) (hl:Lst w w.heap.size a c l) (hn:l.length≤1000) (hw:∀ x∈l,0≤x.1∧x.1≤1000000000) (hp:∀ x∈pairs l,2≤x.2.length):
  Calls Tryz.prog 212 #[.slice a l.length c] w fun e w'=>e=.returned (.slice (some ⟨w.heap.size,0,none⟩) (l.length / 2) (l.length / 2))∧w'.ownsRow w.heap.size 274 2 (.slice (some ⟨w.heap.size,0,none⟩) (l.length / 2) (l.length / 2)) (l.length / 2) (ccells (pairs l))∧Below w.heap.size w w':=by
 have HL:=hid_of hl
 have HW:=hid_of hw
 have HP:=hid_of hp
 obtain⟨k,hk⟩:∃ k,k=l.length / 2:=⟨_,rfl⟩
 have ek:((l.length:Nat):Int) / 2=(k:Int):=by omega
 have ek2:Int.tdiv ((l.length:Nat):Int) 2=(k:Int):=by rw [Int.tdiv_eq_ediv_of_nonneg (by omega)]; omega
 have hmk:=make_coins w k k (Nat.le_refl _) (by omega)
 have H0:Hid (PaiSt w (w.alloc (.cells (madeCells #[.int .i64 0,.int .i64 0] (k * 2)) 274)) l 0):=⟨bstart _ _,_,heap_alloc_new w _,by rw [size_madeCells,hk],fun i hi=>absurd hi (Nat.not_lt_zero i)⟩
 generalize w.alloc (.cells (madeCells #[.int .i64 0,.int .i64 0] (k * 2)) 274)=w0 at hmk H0
 clear hl hw hp
 have HKK:=hid_of hk
 rw[← hk]
 clear hk
 go_enter Tryz.func212,Tryz.ntmps212
 go_wp2_with fail
 go_loopw [11] (fun i w'=>∃ j:Nat,j≤k∧i=.int .i64 j∧Hid (PaiSt w w' l j)) (fun i _=>k - (intOf i).toNat)
 case atStart=>exact⟨0,Nat.zero_le _,rfl,H0⟩
 case round=>
  clear H0 hmk
  obtain⟨j,hj,rfl,hS⟩:=hrel
  by_cases hlt:j < k
  ·have hkk:=HKK.out
   obtain⟨g,off,rfl,hg,_,hc⟩:=HL.out.cell (by omega)
   have c0:wr.cell? ⟨g,off+2 * j * 2,none⟩=some (.int .i64 (l.getD (2 * j) (0,[])).1):=(hS.out.1.cell (p:=⟨g,off+2 * j * 2,none⟩) hg).trans (hc (2 * j) (by omega)).1
   have c1:wr.cell? ⟨g,off+(2 * j+1) * 2,none⟩=some (.int .i64 (l.getD (2 * j+1) (0,[])).1):=(hS.out.1.cell (p:=⟨g,off+(2 * j+1) * 2,none⟩) hg).trans (hc (2 * j+1) (by omega)).1
   have b0:=HW.out _ (getD_mem (l:=l) (i:=2 * j) (by omega))
   have b1:=HW.out _ (getD_mem (l:=l) (i:=2 * j+1) (by omega))
   have hl2:g < wr.heap.size:=Nat.lt_of_lt_of_le hg hS.out.1.size
   obtain⟨p1,p2,p3⟩:=pai_cell hS.out
   obtain⟨u0,q0⟩:=p3 (j * 2) (by omega)
   obtain⟨u1,q1⟩:=p3 (j * 2+1) (by omega)
   have HS1:=hid_of (pai_next hS.out (show j < l.length / 2 by omega) (pairs_at (show j < l.length / 2 by omega)))
   clear p3 hc
   generalize (l.getD (2 * j) (0,[])).1=x0 at c0 HS1 b0
   generalize (l.getD (2 * j+1) (0,[])).1=x1 at c1 HS1 b1
   have i0:(2 * (j:Int)+1) < ((l.length:Nat):Int):=by omega
   have i1:(2 * (j:Int)).toNat=2 * j:=by omega
   have i2:(2 * (j:Int)+1).toNat=2 * j+1:=by omega
   clear hkk
   go_wp2_with fail
   go_region
   all_goals
    go_wp2_with fail
    go_roundw
    case rel=>exact⟨j+1,by omega,by go_num,HS1⟩
    case measure=>simp [intOf]; omega
  ·obtain rfl:j=k:=by omega
   have HZ:Hid (wr.ownsRow w.heap.size 274 2 (.slice (some ⟨w.heap.size,0,none⟩) j j) j (ccells (pairs l))∧Below w.heap.size w wr):=by
    have hkk:=HKK.out
    subst hkk
    exact⟨pai_done hS.out HP.out (by omega),hS.out.1⟩
   go_wp2_with fail
   go_ret
   exact⟨rfl,HZ.out⟩
end Go.Proofs.YtklpiihnbokkkaaGreatDoor
namespace Go.Proofs.YtklpiihnbokkkaaGreatDoor
open Go.RowKit Go.Joins Go.Sort PackageMath
def MerSt (w w':World) (M:List Coin) (a0 a1:Option Addr) (c0 c1:Nat) (v:Value) (P Q O:List Coin):Prop:=
 Lst w w.heap.size a0 c0 P∧Lst w w.heap.size a1 c1 Q∧w'.ownsRow w.heap.size 274 2 v O.length (ccells O)∧Below w.heap.size w w'∧O ++ merge P Q=M
theorem below_grow {B:Nat} {w w':World} (h:Below B w w') (n:Nat) (os:Array Obj) (hB:B≤w'.heap.size):Below B w (grow (w'.drewN n) os):=by
 refine h.trans ⟨rfl,rfl,rfl,?_,fun k hk=>heap_grow_old (w'.drewN n) os (by show k < w'.heap.size; omega)⟩
 rw[size_grow]
 show w'.heap.size≤w'.heap.size+os.size
 omega
theorem own_grow {w:World} {S e size n:Nat} {v:Value} {xs:List Value} (h:w.ownsRow S e size v n xs) (q:Nat) (os:Array Obj):(grow (w.drewN q) os).ownsRow S e size v n xs:=by
 refine⟨h.1,?_⟩
 rcases h.2 with h | ⟨g,cap,cur,rfl,h1,h2,h3⟩
 ·exact .inl h
 ·exact .inr ⟨g,cap,cur,rfl,h1,(heap_grow_old (w.drewN q) os (block_lt h2)).trans h2,h3⟩
theorem MerSt.grown {w w':World} {M:List Coin} {a0 a1:Option Addr} {c0 c1:Nat} {v:Value} {P Q O:List Coin} (h:MerSt w w' M a0 a1 c0 c1 v P Q O) (n:Nat) (os:Array Obj):MerSt w (grow (w'.drewN n) os) M a0 a1 c0 c1 v P Q O:=
 ⟨h.1,h.2.1,own_grow h.2.2.1 n os,below_grow h.2.2.2.1 n os h.2.2.2.1.size,h.2.2.2.2⟩
theorem mer_step {w w2 w3:World} {o:Obj} {M:List Coin} {a0 a1 a0' a1':Option Addr} {c0 c1 c0' c1' no:Nat} {v v':Value} {P Q O P' Q':List Coin} {z:Coin} (h:MerSt w w2 M a0 a1 c0 c1 v P Q O) (hno:no=O.length) (hL0:Lst w w.heap.size a0' c0' P') (hL1:Lst w w.heap.size a1' c1' Q') (hm:O ++ [z] ++ merge P' Q'=M)
  (hown:w3.ownsRow w.heap.size 274 2 v' (no+1) (ccells O ++ [.int .i64 z.1,.int .i64 (sy z)])) (hg:(w2.alloc o).drew.grownBy w3 v.ownBlock):MerSt w w3 M a0' a1' c0' c1' v' P' Q' (O ++ [z]):=by
 subst hno
 refine⟨hL0,hL1,?_,?_,hm⟩
 ·rw[List.length_append,ccells_app]
  exact hown
 ·have hs:=h.2.2.2.1.size
  refine (h.2.2.2.1.alloc hs o).drew.grown hg (by show _≤(w2.alloc o).heap.size; simp; omega) (fun k hk=>?_)
  exact (h.2.2.1.lt k hk).1
theorem news_coin {w:World} (x:Coin):∀ j u,([Value.int .i64 x.1,.int .i64 (sy x)]:List Value)[j]?=some u→(w.alloc (.cells #[.int .i64 x.1,.int .i64 (sy x)] 274)).drew.cell? ((⟨w.heap.size,0,none⟩:Addr).add j)=some u:=
 World.news_of_block (cs:=#[.int .i64 x.1,.int .i64 (sy x)]) (t:=274) (fr:=(0,0)) (heap_alloc_new w _)
theorem one_coin (x:Coin):∀ u∈([Value.int .i64 x.1,.int .i64 (sy x)]:List Value),u.oneCell'=true:=ccells_one [x]
theorem own_at {w:World} {S no go co:Nat} {O:List Coin} (h:w.ownsRow S 274 2 (.slice (some ⟨go,0,none⟩) no co) O.length (ccells O)) (hno:no=O.length) (o:Obj):(w.alloc o).drew.ownsRow S 274 2 (.slice (some ⟨go,0,none⟩) no co) no (ccells O):=by
 subst hno
 exact World.ownsRow.alloc h o
theorem lst_none {w:World} {B:Nat} {ad:Addr} {c:Nat} {P:List Coin} (h:P.length≤c) (hc:c=0):Lst w B (some ad) c P:=⟨h,(fun e=>by cases e),.inl (List.eq_nil_of_length_eq_zero (by omega))⟩
set_option maxHeartbeats 4000000 in
theorem merged_any (a0 a1:Option Addr) (c0 c1:Nat) (X Y:List Coin) (w:World) (hX:Lst w w.heap.size a0 c0 X) (hY:Lst w w.heap.size a1 c1 Y) (hXn:X.length≤1000) (hYn:Y.length≤1000) (hc0:c0≤maxLen) (hc1:c1≤maxLen):
  Calls Tryz.prog 211 #[.slice a0 X.length c0,.slice a1 Y.length c1,.func (.func 210) #[] #[]] w fun e w'=>∃ v,e=.returned v∧w'.ownsRow w.heap.size 274 2 v (merge X Y).length (ccells (merge X Y))∧Below w.heap.size w w':=by
 have mixed:Tryz.prog.follows .mixedOrders=true:=by kernel_rfl
 unfold maxLen at hc0 hc1
 obtain⟨k,hk⟩:∃ k,k=X.length+Y.length:=⟨_,rfl⟩
 have ek:((X.length:Nat):Int)+((Y.length:Nat):Int)=(k:Int):=by omega
 have hmk:=make_coins w 0 k (Nat.zero_le _) (by omega)
 have H0:Hid (MerSt w (w.alloc (.cells (madeCells #[.int .i64 0,.int .i64 0] (k * 2)) 274)) (merge X Y) a0 a1 c0 c1 (.slice (some ⟨w.heap.size,0,none⟩) 0 k) X Y []):=
  ⟨hX,hY,⟨rfl,.inr ⟨w.heap.size,k,_,rfl,Nat.le_refl _,heap_alloc_new w _,Nat.zero_le _,by unfold maxLen; omega,by rw [size_madeCells],by simp [ccells]⟩⟩,bstart _ _,rfl⟩
 rw[show ((0:Nat):Int)=0 from rfl] at hmk
 generalize w.alloc (.cells (madeCells #[.int .i64 0,.int .i64 0] (k * 2)) 274)=w0 at hmk H0
 have hk1:X.length+Y.length≤k:=by omega
 have hk2:k≤X.length+Y.length:=by omega
 clear hX hY hk
 go_enter Tryz.func211,Tryz.ntmps211
 go_wp2_with fail
 go_loopg [0,1,7] (k+1) (fun gk z0 z1 z7 w'=>∃ (b0 b1:Option Addr) (d0 d1 p q go no co:Nat) (P Q O:List Coin),z0=.slice b0 p d0∧z1=.slice b1 q d1∧z7=.slice (some ⟨go,0,none⟩) no co∧p≤1000∧q≤1000∧no≤2000∧p+q+no≤2000∧p+q≤gk∧d0≤9223372036854775807∧d1≤9223372036854775807∧Hid (p=P.length∧q=Q.length∧no=O.length∧MerSt w w' (merge X Y) b0 b1 d0 d1 (.slice (some ⟨go,0,none⟩) no co) P Q O))
 case atStart=>exact⟨a0,a1,c0,c1,X.length,Y.length,w.heap.size,0,k,X,Y,[],rfl,rfl,rfl,hXn,hYn,by omega,by omega,by omega,by omega,by omega,rfl,rfl,rfl,H0.out⟩
 case round=>
  clear H0 hmk
  obtain⟨b0,b1,d0,d1,p,q,go,no,co,P,Q,O,rfl,rfl,rfl,h1,h2,h3,h4,h5,h6,h7,hI⟩:=hrel
  obtain⟨rfl,rfl,hno,hS⟩:=hI.out
  have HNO:=hid_of hno
  have HS:=hid_of hS
  clear hno hS hI
  cases P with
  | nil=>
   have HZ:Hid (O ++ [] ++ Q=merge X Y):=by
    have:=HS.out.2.2.2.2
    rw[merge] at this
    show O ++ [] ++ Q=merge X Y
    simpa using this
   have hq:O.length+([]:List Coin).length+(Q:List Coin).length≤2000:=by
    have ln:([]:List Coin).length=0:=rfl
    rw[← HNO.out]
    omega
   have HQ:=hid_of hq
   have HN0:Hid (b0=none→([]:List Coin).length=0∧d0=0):=fun e=>⟨by have h:=HS.out.1.1; have k:=HS.out.1.2.1 e; omega,HS.out.1.2.1 e⟩
   have HN1:Hid (b1=none→(Q:List Coin).length=0∧d1=0):=fun e=>⟨by have h:=HS.out.2.1.1; have k:=HS.out.2.1.2.1 e; omega,HS.out.2.1.2.1 e⟩
   clear hq
   go_wp2_with (at_builtin; refine coins_append (xs:=O) (ys:=[]) rfl _ _ rfl rfl HS.out.2.2.1 b0 _ d0 rfl (by simp) (HS.out.1.kept HS.out.2.2.2.1).news HN0.out (by have:=HQ.out; omega) HS.out.2.2.2.1.size ?_)
   intro v1 w1 y1 y2
   have HO1:Hid (w1.ownsRow w.heap.size 274 2 v1 (O ++ []).length (ccells (O ++ []))):=hid_of (by simpa using y1)
   have HB1:Hid (Below w.heap.size w w1):=HS.out.2.2.2.1.grown y2 HS.out.2.2.2.1.size (fun k hk=>(HS.out.2.2.1.lt k hk).1)
   clear y1 y2
   go_wp2_with (at_builtin; refine coins_append (xs:=O ++ []) (ys:=Q) rfl _ _ rfl rfl HO1.out b1 _ d1 rfl (by simp) (HS.out.2.1.kept HB1.out).news HN1.out (by have:=HQ.out; rw [List.length_append]; omega) HB1.out.size ?_)
   intro v2 w2 y1 y2
   have HF:Hid (w2.ownsRow w.heap.size 274 2 v2 (merge X Y).length (ccells (merge X Y))∧Below w.heap.size w w2):=by
    rw[← HZ.out]
    exact⟨by simpa using y1,HB1.out.grown y2 HB1.out.size (fun k hk=>(HO1.out.lt k hk).1)⟩
   clear y1 y2
   go_wp2_with fail
   go_ret
   exact⟨v2,rfl,HF.out⟩
  | cons x P=>
   cases Q with
   | nil=>
    have HZ:Hid (O ++ (x :: P) ++ []=merge X Y):=by
     have:=HS.out.2.2.2.2
     rw[merge_nil_right] at this
     show O ++ (x :: P) ++ []=merge X Y
     simpa using this
    have hq:O.length+((x :: P):List Coin).length+([]:List Coin).length≤2000:=by
     have ln:([]:List Coin).length=0:=rfl
     rw[← HNO.out]
     omega
    have HQ:=hid_of hq
    have HN0:Hid (b0=none→((x :: P):List Coin).length=0∧d0=0):=fun e=>⟨by have h:=HS.out.1.1; have k:=HS.out.1.2.1 e; omega,HS.out.1.2.1 e⟩
    have HN1:Hid (b1=none→([]:List Coin).length=0∧d1=0):=fun e=>⟨by have h:=HS.out.2.1.1; have k:=HS.out.2.1.2.1 e; omega,HS.out.2.1.2.1 e⟩
    clear hq
    go_wp2_with (at_builtin; refine coins_append (xs:=O) (ys:=(x :: P)) rfl _ _ rfl rfl HS.out.2.2.1 b0 _ d0 rfl (by simp) (HS.out.1.kept HS.out.2.2.2.1).news HN0.out (by have:=HQ.out; omega) HS.out.2.2.2.1.size ?_)
    intro v1 w1 y1 y2
    have HO1:Hid (w1.ownsRow w.heap.size 274 2 v1 (O ++ (x :: P)).length (ccells (O ++ (x :: P)))):=hid_of (by simpa using y1)
    have HB1:Hid (Below w.heap.size w w1):=HS.out.2.2.2.1.grown y2 HS.out.2.2.2.1.size (fun k hk=>(HS.out.2.2.1.lt k hk).1)
    clear y1 y2
    go_wp2_with (at_builtin; refine coins_append (xs:=O ++ (x :: P)) (ys:=[]) rfl _ _ rfl rfl HO1.out b1 _ d1 rfl (by simp) (HS.out.2.1.kept HB1.out).news HN1.out (by have:=HQ.out; rw [List.length_append]; omega) HB1.out.size ?_)
    intro v2 w2 y1 y2
    have HF:Hid (w2.ownsRow w.heap.size 274 2 v2 (merge X Y).length (ccells (merge X Y))∧Below w.heap.size w w2):=by
     rw[← HZ.out]
     exact⟨by simpa using y1,HB1.out.grown y2 HB1.out.size (fun k hk=>(HO1.out.lt k hk).1)⟩
    clear y1 y2
    go_wp2_with fail
    go_ret
    exact⟨v2,rfl,HF.out⟩
   | cons y Q=>
    have HLP:Hid ((x :: P).length=P.length+1∧(y :: Q).length=Q.length+1∧([]:List Coin).length=0):=⟨rfl,rfl,rfl⟩
    obtain⟨g0,o0,e0,rfl,rfl,k0,k1,k2,k3,k4,k5⟩:=HS.out.1.cons
    obtain⟨g1,o1,e1,rfl,rfl,m0,m1,m2,m3,m4,m5⟩:=HS.out.2.1.cons
    have f0:=fun n' os=>(below_grow HS.out.2.2.2.1 n' os HS.out.2.2.2.1.size).cell (p:=⟨g0,o0,none⟩) k1
    have f1:=fun n' os=>(below_grow HS.out.2.2.2.1 n' os HS.out.2.2.2.1.size).cell (p:=⟨g0,o0+1,none⟩) k1
    have f2:=fun n' os=>(below_grow HS.out.2.2.2.1 n' os HS.out.2.2.2.1.size).cell (p:=⟨g1,o1,none⟩) m1
    have f3:=fun n' os=>(below_grow HS.out.2.2.2.1 n' os HS.out.2.2.2.1.size).cell (p:=⟨g1,o1+1,none⟩) m1
    rw[k3] at f0
    rw[k4] at f1
    rw[m3] at f2
    rw[m4] at f3
    have hcb:=fun n' os=>byWeight_in x.1 y.1 (sy x) (sy y) wr n' os
    by_cases hv:x.1≤y.1
    ·have hr2:cmpI x.1 y.1≤0:=by
      unfold cmpI
      by_cases h':x.1 < y.1
      ·rw[if_pos h']; decide
      ·rw[if_neg h',if_neg (by omega)]; decide
     have hr:=decide_eq_true hr2
     generalize cmpI x.1 y.1=r at hcb hr hr2
     rw[List.length_cons] at *
     go_wp2_with fail
     go_quiet_grown (refine Calls.grown_of (hcb _ _))
     have HS2:=hid_of (HS.out.grown nq osq)
     clear f0 f1 f2 f3 hcb
     generalize grow (wr.drewN nq) osq=w2 at HS2
     have f0:w2.cell? ⟨g0,o0,none⟩=some (.int .i64 x.1):=(HS2.out.2.2.2.1.cell (p:=⟨g0,o0,none⟩) k1).trans k3
     have f1:w2.cell? ⟨g0,o0+1,none⟩=some (.int .i64 (sy x)):=(HS2.out.2.2.2.1.cell (p:=⟨g0,o0+1,none⟩) k1).trans k4
     have hs2:=HS2.out.2.2.2.1.size
     have HM:Hid (O ++ [x] ++ merge P (y :: Q)=merge X Y):=by
      have:=HS2.out.2.2.2.2
      rw[merge_cons,if_pos hv] at this
      show O ++ [x] ++ merge P (y :: Q)=merge X Y
      simpa using this
     obtain⟨i0,hi0,hz0,hz1,hz2⟩:=info_parts info_coin
     clear k3 k4 m3 m4
     go_wp2_with fail
     by_cases he:e0=0
     ·have HL0:=hid_of (lst_none (w:=w) (B:=w.heap.size) (ad:=⟨g0,o0,none⟩) (P:=P) k0 he)
      subst he
      obtain rfl:P=[]:=List.eq_nil_of_length_eq_zero (by omega)
      go_region_law (refine step_append_lies _ rfl (.tmp 31) (.tmp 35) 270 rfl w.heap.size 274 i0 _ 2 16 Tryz.underlying270 hi0 hz0 hz1 hz2 rfl (by omega) (.slice (some ⟨go,0,none⟩) no co) no (ccells O) (by simp [Act.eval]) (own_at HS2.out.2.2.1 HNO.out _) ⟨w2.heap.size,0,none⟩ 1 1 [.int .i64 x.1,.int .i64 (sy x)] (by simp [Act.eval]) rfl (news_coin (w:=w2) x) (one_coin x) (by omega) (by unfold maxLen; omega) (by omega) (by show _≤(w2.alloc _).heap.size; simp; omega) _ rfl ?_; intro g' cap' w3 y1 y2 y3 y4)
      all_goals
       have HN:=hid_of (mer_step HS2.out HNO.out HL0.out HS2.out.2.1 HM.out y1 y2)
       go_wp2_with fail
       go_roundg (0+(Q.length+1))
       case measure=>have l1:=HLP.out.1; have l2:=HLP.out.2.1; have l3:=HLP.out.2.2; omega
       case rel=>exact⟨_,_,_,_,_,_,_,_,_,[],y :: Q,O ++ [x],rfl,rfl,rfl,by have l1:=HLP.out.1; have l2:=HLP.out.2.1; have l3:=HLP.out.2.2; omega,by have l1:=HLP.out.1; have l2:=HLP.out.2.1; have l3:=HLP.out.2.2; omega,by have l1:=HLP.out.1; have l2:=HLP.out.2.1; have l3:=HLP.out.2.2; omega,by have l1:=HLP.out.1; have l2:=HLP.out.2.1; have l3:=HLP.out.2.2; omega,by have l1:=HLP.out.1; have l2:=HLP.out.2.1; have l3:=HLP.out.2.2; omega,by omega,by omega,rfl,rfl,by rw [List.length_append,← HNO.out]; rfl,HN.out⟩
     ·have sl1:(1:Int)≤((P.length:Nat):Int)+1:=by omega
      have sl2:¬ e0≤0:=by omega
      have sl3:0 < e0:=by omega
      go_region_law (refine step_append_lies _ rfl (.tmp 31) (.tmp 35) 270 rfl w.heap.size 274 i0 _ 2 16 Tryz.underlying270 hi0 hz0 hz1 hz2 rfl (by omega) (.slice (some ⟨go,0,none⟩) no co) no (ccells O) (by simp [Act.eval]) (own_at HS2.out.2.2.1 HNO.out _) ⟨w2.heap.size,0,none⟩ 1 1 [.int .i64 x.1,.int .i64 (sy x)] (by simp [Act.eval]) rfl (news_coin (w:=w2) x) (one_coin x) (by omega) (by unfold maxLen; omega) (by omega) (by show _≤(w2.alloc _).heap.size; simp; omega) _ rfl ?_; intro g' cap' w3 y1 y2 y3 y4)
      all_goals
       have HN:=hid_of (mer_step HS2.out HNO.out k5 HS2.out.2.1 HM.out y1 y2)
       go_wp2_with fail
       go_roundg (P.length+(Q.length+1))
       case measure=>have l1:=HLP.out.1; have l2:=HLP.out.2.1; have l3:=HLP.out.2.2; omega
       case rel=>exact⟨_,_,_,_,_,_,_,_,_,P,y :: Q,O ++ [x],rfl,rfl,rfl,by have l1:=HLP.out.1; have l2:=HLP.out.2.1; have l3:=HLP.out.2.2; omega,by have l1:=HLP.out.1; have l2:=HLP.out.2.1; have l3:=HLP.out.2.2; omega,by have l1:=HLP.out.1; have l2:=HLP.out.2.1; have l3:=HLP.out.2.2; omega,by have l1:=HLP.out.1; have l2:=HLP.out.2.1; have l3:=HLP.out.2.2; omega,by have l1:=HLP.out.1; have l2:=HLP.out.2.1; have l3:=HLP.out.2.2; omega,by omega,by omega,rfl,rfl,by rw [List.length_append,← HNO.out]; rfl,HN.out⟩
    ·have hr2:¬ cmpI x.1 y.1≤0:=by
      unfold cmpI
      rw[if_neg (by omega),if_pos (by omega)]
      decide
     have hr:=decide_eq_false hr2
     generalize cmpI x.1 y.1=r at hcb hr hr2
     rw[List.length_cons] at *
     go_wp2_with fail
     go_quiet_grown (refine Calls.grown_of (hcb _ _))
     have HS2:=hid_of (HS.out.grown nq osq)
     clear f0 f1 f2 f3 hcb
     generalize grow (wr.drewN nq) osq=w2 at HS2
     have f0:w2.cell? ⟨g1,o1,none⟩=some (.int .i64 y.1):=(HS2.out.2.2.2.1.cell (p:=⟨g1,o1,none⟩) m1).trans m3
     have f1:w2.cell? ⟨g1,o1+1,none⟩=some (.int .i64 (sy y)):=(HS2.out.2.2.2.1.cell (p:=⟨g1,o1+1,none⟩) m1).trans m4
     have hs2:=HS2.out.2.2.2.1.size
     have HM:Hid (O ++ [y] ++ merge (x :: P) Q=merge X Y):=by
      have:=HS2.out.2.2.2.2
      rw[merge_cons,if_neg (by omega)] at this
      show O ++ [y] ++ merge (x :: P) Q=merge X Y
      simpa using this
     obtain⟨i0,hi0,hz0,hz1,hz2⟩:=info_parts info_coin
     clear k3 k4 m3 m4
     go_wp2_with fail
     by_cases he:e1=0
     ·have HL0:=hid_of (lst_none (w:=w) (B:=w.heap.size) (ad:=⟨g1,o1,none⟩) (P:=Q) m0 he)
      subst he
      obtain rfl:Q=[]:=List.eq_nil_of_length_eq_zero (by omega)
      go_region_law (refine step_append_lies _ rfl (.tmp 39) (.tmp 43) 270 rfl w.heap.size 274 i0 _ 2 16 Tryz.underlying270 hi0 hz0 hz1 hz2 rfl (by omega) (.slice (some ⟨go,0,none⟩) no co) no (ccells O) (by simp [Act.eval]) (own_at HS2.out.2.2.1 HNO.out _) ⟨w2.heap.size,0,none⟩ 1 1 [.int .i64 y.1,.int .i64 (sy y)] (by simp [Act.eval]) rfl (news_coin (w:=w2) y) (one_coin y) (by omega) (by unfold maxLen; omega) (by omega) (by show _≤(w2.alloc _).heap.size; simp; omega) _ rfl ?_; intro g' cap' w3 y1 y2 y3 y4)
      all_goals
       have HN:=hid_of (mer_step HS2.out HNO.out HS2.out.1 HL0.out HM.out y1 y2)
       go_wp2_with fail
       go_roundg (P.length+1+0)
       case measure=>have l1:=HLP.out.1; have l2:=HLP.out.2.1; have l3:=HLP.out.2.2; omega
       case rel=>exact⟨_,_,_,_,_,_,_,_,_,x :: P,[],O ++ [y],rfl,rfl,rfl,by have l1:=HLP.out.1; have l2:=HLP.out.2.1; have l3:=HLP.out.2.2; omega,by have l1:=HLP.out.1; have l2:=HLP.out.2.1; have l3:=HLP.out.2.2; omega,by have l1:=HLP.out.1; have l2:=HLP.out.2.1; have l3:=HLP.out.2.2; omega,by have l1:=HLP.out.1; have l2:=HLP.out.2.1; have l3:=HLP.out.2.2; omega,by have l1:=HLP.out.1; have l2:=HLP.out.2.1; have l3:=HLP.out.2.2; omega,by omega,by omega,rfl,rfl,by rw [List.length_append,← HNO.out]; rfl,HN.out⟩
     ·have sl1:(1:Int)≤((Q.length:Nat):Int)+1:=by omega
      have sl2:¬ e1≤0:=by omega
      have sl3:0 < e1:=by omega
      go_region_law (refine step_append_lies _ rfl (.tmp 39) (.tmp 43) 270 rfl w.heap.size 274 i0 _ 2 16 Tryz.underlying270 hi0 hz0 hz1 hz2 rfl (by omega) (.slice (some ⟨go,0,none⟩) no co) no (ccells O) (by simp [Act.eval]) (own_at HS2.out.2.2.1 HNO.out _) ⟨w2.heap.size,0,none⟩ 1 1 [.int .i64 y.1,.int .i64 (sy y)] (by simp [Act.eval]) rfl (news_coin (w:=w2) y) (one_coin y) (by omega) (by unfold maxLen; omega) (by omega) (by show _≤(w2.alloc _).heap.size; simp; omega) _ rfl ?_; intro g' cap' w3 y1 y2 y3 y4)
      all_goals
       have HN:=hid_of (mer_step HS2.out HNO.out HS2.out.1 m5 HM.out y1 y2)
       go_wp2_with fail
       go_roundg (P.length+1+Q.length)
       case measure=>have l1:=HLP.out.1; have l2:=HLP.out.2.1; have l3:=HLP.out.2.2; omega
       case rel=>exact⟨_,_,_,_,_,_,_,_,_,x :: P,Q,O ++ [y],rfl,rfl,rfl,by have l1:=HLP.out.1; have l2:=HLP.out.2.1; have l3:=HLP.out.2.2; omega,by have l1:=HLP.out.1; have l2:=HLP.out.2.1; have l3:=HLP.out.2.2; omega,by have l1:=HLP.out.1; have l2:=HLP.out.2.1; have l3:=HLP.out.2.2; omega,by have l1:=HLP.out.1; have l2:=HLP.out.2.1; have l3:=HLP.out.2.2; omega,by have l1:=HLP.out.1; have l2:=HLP.out.2.1; have l3:=HLP.out.2.2; omega,by omega,by omega,rfl,rfl,by rw [List.length_append,← HNO.out]; rfl,HN.out⟩
end Go.Proofs.YtklpiihnbokkkaaGreatDoor

namespace Go.Proofs.YtklpiihnbokkkaaGreatDoor
open Go.RowKit Go.Joins Go.Sort SortMath
def SeekL (f:Nat→Int) (a b i j:Nat):Prop:=(∀ x,a+1≤x→x < i→f x < f a)∧∀ x,j≤x→x < b→f a < f x
theorem seekL_up {f:Nat→Int} {a b i j h:Nat} (hs:SeekL f a b i j) (hu:Up f (a+1) b) (_hh:a+1≤h) (hj:h < j) (hb:j≤b) (hw:f h / 1024 < f a / 1024):SeekL f a b (h+1) j:=by
 refine⟨fun x p q=>?_,hs.2⟩
 have:=Up.le hu p (show x≤h by omega) (by omega)
 omega
theorem seekL_down {f:Nat→Int} {a b i j h:Nat} (hs:SeekL f a b i j) (hu:Up f (a+1) b) (hst:Stb f a b) (hh:a+1≤h) (_hj:h < j) (_hb:j≤b) (hw:¬ f h / 1024 < f a / 1024):SeekL f a b i h:=by
 refine⟨hs.1,fun x p q=>?_⟩
 have h1:=Up.le hu hh p q
 have h2:=hst a x (Nat.le_refl _) (by omega) q
 omega
theorem cmp_less {x y:Int} (h:x < y):cmpI x y < 0:=by unfold cmpI; rw [if_pos h]; decide
theorem cmp_not {x y:Int} (h:¬ x < y):¬ cmpI x y < 0:=by
 unfold cmpI
 rw[if_neg h]
 by_cases h':y < x
 ·rw[if_pos h']; decide
 ·rw[if_neg h']; decide
set_option maxHeartbeats 8000000 in
set_option maxRecDepth 100000 in
theorem sym_left (w0:World) (g n cap a b:Nat) (f:Nat→Int) (w:World) (hS:CW w0 g n f w) (hab:a+1 < b) (hb:b≤n) (hn:n≤288) (hst:Stb f a b) (hu:Up f (a+1) b):
  Calls Tryz.prog 226 #[.slice (some ⟨g,0,none⟩) n cap,.int .i64 a,.int .i64 ((a:Int)+1),.int .i64 b,.func (.func 210) #[] #[]] w fun e w'=>e=.returned (.tuple #[])∧∃ f',CW w0 g n f' w'∧Up f' a b∧Of f f' a b:=by
 have mixed:Tryz.prog.follows .mixedOrders=true:=by kernel_rfl
 have H0:=hid_of hS
 have HST:=hid_of hst
 have HU:=hid_of hu
 clear hS hst hu
 have em:(a:Int)+1 - (a:Int)=1:=by omega
 go_enter Tryz.func226,Tryz.ntmps226
 go_wp2_with fail
 go_loopg [10,11] (n+1) (fun gk zi zj w'=>∃ i j:Nat,zi=.int .i64 i∧zj=.int .i64 j∧a+1≤i∧i≤j∧j≤b∧j - i≤gk∧Hid (SeekL f a b i j)∧Hid (CW w0 g n f w'))
 case atStart=>exact⟨a+1,b,by first | rfl | go_num | (congr 1; omega),rfl,Nat.le_refl _,by omega,Nat.le_refl _,by omega,⟨fun x p q=>by omega,fun x p q=>by omega⟩,H0⟩
 case round=>
  clear H0
  obtain⟨i,j,rfl,rfl,h1,h2,h3,h4,hK,HC⟩:=hrel
  by_cases hlt:i < j
  ·obtain⟨h,hh⟩:∃ h,h=(i+j) / 2:=⟨_,rfl⟩
   have hh1:i≤h∧h < j:=by omega
   have eh:((i:Int)+(j:Int)) / 2=(h:Int):=by omega
   clear hh
   have c0:=fun n' os=>(HC.out.grown n' os).cell0 h (by omega)
   have c1:=fun n' os=>(HC.out.grown n' os).cell1 h (by omega)
   have c2:=fun n' os=>(HC.out.grown n' os).cell0 a (by omega)
   have c3:=fun n' os=>(HC.out.grown n' os).cell1 a (by omega)
   have hcb:=fun n' os=>byWeight_in (f h / 1024) (f a / 1024) (f h % 1024) (f a % 1024) wr n' os
   by_cases hv:f h / 1024 < f a / 1024
   ·have HK1:=hid_of (seekL_up hK.out HU.out (show a+1≤h by omega) hh1.2 h3 hv)
    have hr2:=cmp_less hv
    have hr:=decide_eq_true hr2
    generalize cmpI (f h / 1024) (f a / 1024)=r at hcb hr hr2
    clear hv
    generalize f h / 1024=x0 at c0 hcb
    generalize f h % 1024=x1 at c1 hcb
    generalize f a / 1024=y0 at c2 hcb
    generalize f a % 1024=y1 at c3 hcb
    go_wp2_with fail
    have k2:(h:Int) < (n:Int):=by omega
    have k3:(a:Int) < (n:Int):=by omega
    go_quiet_grown (refine Calls.grown_of (hcb _ _))
    have HN:=hid_of (HC.out.grown nq osq)
    clear c0 c1 c2 c3 hcb eh
    generalize grow (wr.drewN nq) osq=w2 at HN
    go_wp2_with fail
    go_roundg (j - (h+1))
    case measure=>omega
    case rel=>exact⟨h+1,j,by first | rfl | go_num | (congr 1; omega),rfl,by omega,by omega,h3,Nat.le_refl _,HK1,HN⟩
   ·have HK1:=hid_of (seekL_down hK.out HU.out HST.out (show a+1≤h by omega) hh1.2 h3 hv)
    have hr2:=cmp_not hv
    have hr:=decide_eq_false hr2
    generalize cmpI (f h / 1024) (f a / 1024)=r at hcb hr hr2
    clear hv
    generalize f h / 1024=x0 at c0 hcb
    generalize f h % 1024=x1 at c1 hcb
    generalize f a / 1024=y0 at c2 hcb
    generalize f a % 1024=y1 at c3 hcb
    go_wp2_with fail
    have k2:(h:Int) < (n:Int):=by omega
    have k3:(a:Int) < (n:Int):=by omega
    go_quiet_grown (refine Calls.grown_of (hcb _ _))
    have HN:=hid_of (HC.out.grown nq osq)
    clear c0 c1 c2 c3 hcb eh
    generalize grow (wr.drewN nq) osq=w2 at HN
    go_wp2_with fail
    go_roundg (h - i)
    case measure=>omega
    case rel=>exact⟨i,h,rfl,rfl,h1,by omega,by omega,Nat.le_refl _,HK1,HN⟩
  ·obtain rfl:i=j:=by omega
   have HF:=hid_of (shl_up HU.out h1 h3 hK.out.1 hK.out.2)
   have HC0:=hid_of (HC.out.congr (fun x=>(shl_zero f a x).symm))
   clear HC hK
   go_wp2_with fail
   go_loopg [13] (n+1) (fun gk zk w'=>∃ k:Nat,zk=.int .i64 k∧a≤k∧k≤i - 1∧n - k≤gk∧Hid (CW w0 g n (shl f a k) w'))
   case atStart=>exact⟨a,rfl,Nat.le_refl _,by omega,by omega,HC0⟩
   case round=>
    clear HC0
    obtain⟨k,rfl,q1,q2,q3,HC⟩:=hrel
    by_cases hki:k < i - 1
    ·have HS1:=hid_of ((HC.out.swap k (k+1) (by omega) (by omega) (by omega)).congr (fun x=>shl_step f a k x q1)).drew
     have c0:=HC.out.cell0 k (by omega)
     have c1:=HC.out.cell1 k (by omega)
     have c2:=HC.out.cell0 (k+1) (by omega)
     have c3:=HC.out.cell1 (k+1) (by omega)
     have fz:=HC.out.free
     have gl:=HC.out.gl
     have dk:decide ((k:Int) < (i:Int) - 1)=true:=decide_eq_true (by omega)
     generalize shl f a k k / 1024=x0 at c0 HS1
     generalize shl f a k k % 1024=x1 at c1 HS1
     generalize shl f a k (k+1) / 1024=y0 at c2 HS1
     generalize shl f a k (k+1) % 1024=y1 at c3 HS1
     go_wp2_with fail
     go_region
     all_goals
      go_wp2_with fail
      go_roundg (n - (k+1))
      case measure=>omega
      case rel=>exact⟨k+1,by first | rfl | go_num | (congr 1; omega),by omega,by omega,Nat.le_refl _,HS1⟩
    ·obtain rfl:k=i - 1:=by omega
     have dk:decide (((i - 1:Nat):Int) < (i:Int) - 1)=false:=decide_eq_false (by omega)
     have dk2:¬ ((i - 1:Nat):Int) < (i:Int) - 1:=by omega
     go_wp2_with fail
     refine bodyPost_ret (results_none rfl _ _ _) rfl ?_
     exact⟨rfl,_,HC.out,HF.out.1,HF.out.2⟩
end Go.Proofs.YtklpiihnbokkkaaGreatDoor
namespace Go.Proofs.YtklpiihnbokkkaaGreatDoor
open Go.RowKit Go.Joins Go.Sort SortMath
def SeekR (f:Nat→Int) (a m i j:Nat):Prop:=(∀ x,a≤x→x < i→f x < f m)∧∀ x,j≤x→x < m→f m < f x
theorem seekR_down {f:Nat→Int} {a m i j h:Nat} (hs:SeekR f a m i j) (hu:Up f a m) (hh:a≤h) (hw:f m / 1024 < f h / 1024):SeekR f a m i h:=by
 refine⟨hs.1,fun x p q=>?_⟩
 have:=Up.le hu hh p q
 omega
theorem seekR_up {f:Nat→Int} {a m i j h:Nat} (hs:SeekR f a m i j) (hu:Up f a m) (hst:Stb f a (m+1)) (hj:h < j) (hb:j≤m) (hw:¬ f m / 1024 < f h / 1024):SeekR f a m (h+1) j:=by
 refine⟨fun x p q=>?_,hs.2⟩
 have h1:=Up.le hu p (show x≤h by omega) (by omega)
 have h2:=hst x m p (by omega) (by omega)
 omega
set_option maxHeartbeats 8000000 in
set_option maxRecDepth 100000 in
theorem sym_right (w0:World) (g n cap a m:Nat) (f:Nat→Int) (w:World) (hS:CW w0 g n f w) (ham:a+1 < m) (hb:m+1≤n) (hn:n≤288) (hst:Stb f a (m+1)) (hu:Up f a m):
  Calls Tryz.prog 226 #[.slice (some ⟨g,0,none⟩) n cap,.int .i64 a,.int .i64 m,.int .i64 ((m:Int)+1),.func (.func 210) #[] #[]] w fun e w'=>e=.returned (.tuple #[])∧∃ f',CW w0 g n f' w'∧Up f' a (m+1)∧Of f f' a (m+1):=by
 have mixed:Tryz.prog.follows .mixedOrders=true:=by kernel_rfl
 have H0:=hid_of hS
 have HST:=hid_of hst
 have HU:=hid_of hu
 clear hS hst hu
 have em:(m:Int)+1 - (m:Int)=1:=by omega
 have em2:((m:Int) - (a:Int) == 1)=false:=by simp; omega
 go_enter Tryz.func226,Tryz.ntmps226
 go_wp2_with fail
 go_loopg [14,15] (n+1) (fun gk zi zj w'=>∃ i j:Nat,zi=.int .i64 i∧zj=.int .i64 j∧a≤i∧i≤j∧j≤m∧j - i≤gk∧Hid (SeekR f a m i j)∧Hid (CW w0 g n f w'))
 case atStart=>exact⟨a,m,rfl,rfl,Nat.le_refl _,by omega,Nat.le_refl _,by omega,⟨fun x p q=>by omega,fun x p q=>by omega⟩,H0⟩
 case round=>
  clear H0
  obtain⟨i,j,rfl,rfl,h1,h2,h3,h4,hK,HC⟩:=hrel
  by_cases hlt:i < j
  ·obtain⟨h,hh⟩:∃ h,h=(i+j) / 2:=⟨_,rfl⟩
   have hh1:i≤h∧h < j:=by omega
   have eh:((i:Int)+(j:Int)) / 2=(h:Int):=by omega
   clear hh
   have c0:=fun n' os=>(HC.out.grown n' os).cell0 m (by omega)
   have c1:=fun n' os=>(HC.out.grown n' os).cell1 m (by omega)
   have c2:=fun n' os=>(HC.out.grown n' os).cell0 h (by omega)
   have c3:=fun n' os=>(HC.out.grown n' os).cell1 h (by omega)
   have hcb:=fun n' os=>byWeight_in (f m / 1024) (f h / 1024) (f m % 1024) (f h % 1024) wr n' os
   have k2:(h:Int) < (n:Int):=by omega
   have k3:(m:Int) < (n:Int):=by omega
   by_cases hv:f m / 1024 < f h / 1024
   ·have HK1:=hid_of (seekR_down hK.out HU.out (show a≤h by omega) hv)
    have hr2:=cmp_less hv
    have hr:=decide_eq_true hr2
    generalize cmpI (f m / 1024) (f h / 1024)=r at hcb hr hr2
    clear hv
    generalize f m / 1024=x0 at c0 hcb
    generalize f m % 1024=x1 at c1 hcb
    generalize f h / 1024=y0 at c2 hcb
    generalize f h % 1024=y1 at c3 hcb
    go_wp2_with fail
    go_quiet_grown (refine Calls.grown_of (hcb _ _))
    have HN:=hid_of (HC.out.grown nq osq)
    clear c0 c1 c2 c3 hcb eh
    generalize grow (wr.drewN nq) osq=w2 at HN
    go_wp2_with fail
    go_roundg (h - i)
    case measure=>omega
    case rel=>exact⟨i,h,rfl,rfl,h1,by omega,by omega,Nat.le_refl _,HK1,HN⟩
   ·have HK1:=hid_of (seekR_up hK.out HU.out HST.out hh1.2 h3 hv)
    have hr2:=cmp_not hv
    have hr:=decide_eq_false hr2
    generalize cmpI (f m / 1024) (f h / 1024)=r at hcb hr hr2
    clear hv
    generalize f m / 1024=x0 at c0 hcb
    generalize f m % 1024=x1 at c1 hcb
    generalize f h / 1024=y0 at c2 hcb
    generalize f h % 1024=y1 at c3 hcb
    go_wp2_with fail
    go_quiet_grown (refine Calls.grown_of (hcb _ _))
    have HN:=hid_of (HC.out.grown nq osq)
    clear c0 c1 c2 c3 hcb eh
    generalize grow (wr.drewN nq) osq=w2 at HN
    go_wp2_with fail
    go_roundg (j - (h+1))
    case measure=>omega
    case rel=>exact⟨h+1,j,by first | rfl | go_num | (congr 1; omega),rfl,by omega,by omega,h3,Nat.le_refl _,HK1,HN⟩
  ·obtain rfl:i=j:=by omega
   have HF:=hid_of (shr_up HU.out h1 h3 hK.out.1 hK.out.2)
   have HC0:=hid_of (HC.out.congr (fun x=>(shr_zero f m x).symm))
   clear HC hK
   go_wp2_with fail
   go_loopg [17] (n+1) (fun gk zk w'=>∃ k:Nat,zk=.int .i64 k∧i≤k∧k≤m∧k≤gk∧Hid (CW w0 g n (shr f m k) w'))
   case atStart=>exact⟨m,rfl,h3,Nat.le_refl _,by omega,HC0⟩
   case round=>
    clear HC0
    obtain⟨k',rfl,q1,q2,q3,HC⟩:=hrel
    by_cases hki:i < k'
    ·obtain⟨k,rfl⟩:∃ k,k'=k+1:=⟨k' - 1,by omega⟩
     have HS1:=hid_of ((HC.out.swap (k+1) k (by omega) (by omega) (by omega)).congr (fun x=>shr_step f m k x (by omega))).drew
     have c0:=HC.out.cell0 (k+1) (by omega)
     have c1:=HC.out.cell1 (k+1) (by omega)
     have c2:=HC.out.cell0 k (by omega)
     have c3:=HC.out.cell1 k (by omega)
     have fz:=HC.out.free
     have gl:=HC.out.gl
     have dk:decide ((i:Int) < (k:Int)+1)=true:=decide_eq_true (by omega)
     have kw:IntKind.i64.wrap (k:Int)=(k:Int):=by rw [IntKind.wrap_i64]; omega
     have k1:(k:Int)+1 < (n:Int):=by omega
     have k2:(k:Int) < (n:Int):=by omega
     have k3:(0:Int)≤(k:Int)+1:=by omega
     have k4:((k:Int)+1).toNat=k+1:=by omega
     generalize shr f m (k+1) (k+1) / 1024=x0 at c0 HS1
     generalize shr f m (k+1) (k+1) % 1024=x1 at c1 HS1
     generalize shr f m (k+1) k / 1024=y0 at c2 HS1
     generalize shr f m (k+1) k % 1024=y1 at c3 HS1
     go_wp2_with fail
     go_region
     all_goals
      go_wp2_with fail
      go_roundg k
      case measure=>omega
      case rel=>exact⟨k,by first | rfl | go_num | (congr 1; omega),by omega,by omega,Nat.le_refl _,HS1⟩
    ·obtain rfl:i=k':=by omega
     have dk:decide ((i:Int) < (i:Int))=false:=by simp
     go_wp2_with fail
     refine bodyPost_ret (results_none rfl _ _ _) rfl ?_
     exact⟨rfl,_,HC.out,HF.out.1,HF.out.2⟩
end Go.Proofs.YtklpiihnbokkkaaGreatDoor
namespace Go.Proofs.YtklpiihnbokkkaaGreatDoor
open Go.RowKit Go.Joins Go.Sort SortMath
def SymGoes (w0 : World) (g n cap a m b : Nat) : Prop := ∀ (f : Nat → Int) (w : World) (za zm zb : Int), za = (a : Int) → zm = (m : Int) → zb = (b : Int) → CW w0 g n f w → Stb f a b → Up f a m → Up f m b →
    Calls Tryz.prog 226 #[.slice (some ⟨g, 0, none⟩) n cap, .int .i64 za, .int .i64 zm, .int .i64 zb, .func (.func 210) #[] #[]] w fun e w' => e = .returned (.tuple #[]) ∧ ∃ f', CW w0 g n f' w' ∧ Up f' a b ∧ Of f f' a b
def SeekM (f:Nat→Int) (t lo hi s r:Nat):Prop:=(s=lo∨f (s - 1) < f (t - s))∧(r=hi∨f (t - 1 - r) < f r)
theorem seekM_up {f:Nat→Int} {t lo hi s r c a m b:Nat} (hs:SeekM f t lo hi s r) (hst:Stb f a b) (h1:a≤c) (h2:c < m) (h3:m≤t - 1 - c) (h4:t - 1 - c < b) (hw:¬ f (t - 1 - c) / 1024 < f c / 1024):SeekM f t lo hi (c+1) r:=by
 refine⟨.inr ?_,hs.2⟩
 have:=hst c (t - 1 - c) h1 (by omega) h4
 rw[Nat.add_sub_cancel,show t - (c+1)=t - 1 - c by omega]
 omega
theorem seekM_down {f:Nat→Int} {t lo hi s r c:Nat} (hs:SeekM f t lo hi s r) (hw:f (t - 1 - c) / 1024 < f c / 1024):SeekM f t lo hi s c:=⟨hs.1,.inr (by omega)⟩
end Go.Proofs.YtklpiihnbokkkaaGreatDoor
