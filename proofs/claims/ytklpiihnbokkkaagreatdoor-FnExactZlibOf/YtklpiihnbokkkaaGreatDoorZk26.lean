/-
  Texts of the proof, put together.
-/
import Derived.Test.YtklpiihnbokkkaaGreatDoorZk25
namespace Go.Proofs.YtklpiihnbokkkaaGreatDoor
section
open Go.RowKit Go.Joins OutMath CodeMath RunsMath
def RoomM (f:Nat→Int) (n M:Nat) (w:World) (e:Ending) (w':World):Prop:=
 ∃ (x:Int) (b:Bool),e=.returned (.tuple #[.int .i64 x,.bool b])∧w'=w∧((b=true∧n≤M∧OkLens f n)∨(b=false∧¬ (n≤M∧OkLens f n)))
theorem RoomM.yes {f:Nat→Int} {n M:Nat} {w:World} {x:Int} (h1:n≤M) (h2:OkLens f n):RoomM f n M w (.returned (.tuple #[.int .i64 x,.bool true])) w:=⟨_,true,rfl,rfl,.inl ⟨rfl,h1,h2⟩⟩
theorem RoomM.no {f:Nat→Int} {n M:Nat} {w:World} (h:¬ (n≤M∧OkLens f n)):RoomM f n M w (.returned (.tuple #[.int .i64 0,.bool false])) w:=⟨_,false,rfl,rfl,.inr ⟨rfl,h⟩⟩
set_option maxHeartbeats 800000 in
theorem specRoomM (a:Option Addr) (n cap M:Nat) (f:Nat→Int) (w:World) (hC:Came w a n f) (hn:n≤1048576) (hM:M≤100000):
  Calls Tryz.prog 158 #[.slice a n cap,.int .i64 (M:Int)] w (RoomM f n M w):=by
 have HC:Hid (Came w a n f):=hC
 clear hC
 by_cases hm:n≤M
 ·have dm:decide ((M:Int) < (n:Int))=false:=decide_eq_false (by omega)
  have dm2:decide (M < n)=false:=decide_eq_false (by omega)
  go_enter Tryz.func158,Tryz.ntmps158
  go_wp2_with fail
  go_loop [6,7] (fun x i=>∃ j:Nat,j≤n∧i=.int .i64 j∧x=.int .i64 (room f j)∧Hid (OkLens f j)) (fun _ i=>n - (intOf i).toNat)
  case atStart=>exact⟨0,Nat.zero_le _,rfl,rfl,fun i hi=>absurd hi (Nat.not_lt_zero i)⟩
  case round=>
   obtain⟨j,hj,rfl,rfl,hok⟩:=hrel
   by_cases hlt:j < n
   ·have hr:=room_bd f j
    have hr2:=hr.2 hok.out
    have hr1:=hr.1
    clear hr
    rcases HC.out with h0 | ⟨g,off,rfl,hg,hc⟩
    ·omega
    ·have c0:=hc j hlt
     clear hc
     by_cases hin:0≤f j∧f j≤15
     ·have HK:Hid (OkLens f (j+1)):=fun i hi=>by
       by_cases e:i=j
       ·rw[e]; exact hin
       ·exact hok.out i (by omega)
      obtain⟨i0,i1⟩:=hin
      go_wp2_with fail
      refine (in_yes _ _ _ _ i0 i1).mono ?_
      rintro e w1 ⟨rfl,rfl⟩
      by_cases hpos:0 < f j
      ·have HR:Hid (room f (j+1)=room f j+p2 (15 - f j).toNat):=by
        show room f j+(if 0 < f j then p2 (15 - f j).toNat else 0)=_
        rw[if_pos hpos]
       have hp:=p2_le (show (15 - f j).toNat≤15 by omega)
       have hp2:p2 15=32768:=by decide +kernel
       have hp3:=p2_pos (15 - f j).toNat
       go_wp2_with fail
       refine (pow_int _ _ (by omega) (by omega)).mono ?_
       rintro e w1 ⟨rfl,rfl⟩
       go_wp2_with fail
       go_round
       case rel=>exact⟨j+1,by omega,by go_num,by rw [HR.out],HK⟩
       case measure=>simp [intOf]; omega
      ·have HR:Hid (room f (j+1)=room f j):=by
        show room f j+(if 0 < f j then p2 (15 - f j).toNat else 0)=_
        rw[if_neg hpos]; omega
       have d:decide (0 < f j)=false:=by simpa using hpos
       go_wp2_with fail
       go_round
       case rel=>exact⟨j+1,by omega,by go_num,by rw [HR.out],HK⟩
       case measure=>simp [intOf]; omega
     ·have HN:Hid (¬ (0≤f j∧f j≤15)):=hin
      clear hin
      go_wp2_with fail
      refine (in_no _ _ _ _ HN.out).mono ?_
      rintro e w1 ⟨rfl,rfl⟩
      go_wp2_with fail
      go_ret2
      exact RoomM.no (fun h=>HN.out (h.2 j hlt))
   ·obtain rfl:j=n:=by omega
    go_wp2_with fail
    go_ret2
    exact RoomM.yes hm hok.out
 ·have dm:decide ((M:Int) < (n:Int))=true:=decide_eq_true (by omega)
  have dm2:decide (M < n)=true:=decide_eq_true (by omega)
  go_enter Tryz.func158,Tryz.ntmps158
  go_wp2_with fail
  go_ret2
  exact RoomM.no (fun h=>hm h.1)
def RunsRight (f:Nat→Int) (n:Nat):Prop:=n≤320∧OkLens f n
theorem specOk_yes (a:Option Addr) (n cap:Nat) (f:Nat→Int) (w:World) (hC:Came w a n f) (hn:n≤1048576) (h:RunsRight f n):Calls Tryz.prog 154 #[.slice a n cap] w fun e w'=>e=.returned (.bool true)∧w'=w:=by
 have hr:=specRoomM a n cap 320 f w hC hn (by omega)
 have HR:=hid_of h
 clear h hC
 go_enter Tryz.func154,Tryz.ntmps154
 go_wp2_with fail
 refine hr.mono ?_
 rintro e w1 ⟨x,b,rfl,rfl,hb⟩
 obtain rfl:b=true:=by
  rcases hb with h | h
  ·exact h.1
  ·exact absurd HR.out h.2
 clear hb
 go_wp2_with fail
 go_ret
 exact⟨rfl,rfl⟩
set_option maxHeartbeats 800000 in
theorem specSame (a:Option Addr) (n cap:Nat) (f:Nat→Int) (i m:Nat) (x:Int) (w:World) (hC:Came w a n f) (hn:n≤1048576) (hi:i≤n) (hm:m≤1000):
  Calls Tryz.prog 155 #[.slice a n cap,.int .i64 (i:Int),.int .i64 x,.int .i64 (m:Int)] w fun e w'=>e=.returned (.int .i64 ((sameN f n x m i:Nat):Int))∧w'=w:=by
 have HC:Hid (Came w a n f):=hC
 clear hC
 go_enter Tryz.func155,Tryz.ntmps155
 go_wp2_with fail
 go_loop [9] (fun z=>∃ k:Nat,k≤m∧i+k≤n∧z=.int .i64 k∧Hid (∀ j,j < k→f (i+j)=x)) (fun z=>m - (intOf z).toNat)
 case atStart=>exact⟨0,Nat.zero_le _,hi,rfl,fun j hj=>absurd hj (Nat.not_lt_zero j)⟩
 case round=>
  obtain⟨k,hk,hin,rfl,hA⟩:=hrel
  by_cases h1:i+k < n
  ·have d1:decide ((i:Int)+(k:Int) < (n:Int))=true:=decide_eq_true (by omega)
   have d1':(i:Int)+(k:Int) < (n:Int):=by omega
   by_cases h2:k < m
   ·have d2:decide ((k:Int) < (m:Int))=true:=decide_eq_true (by omega)
    rcases HC.out with h0 | ⟨g,off,rfl,hg,hc⟩
    ·omega
    ·have c0:=hc (i+k) h1
     clear hc
     have e1:((i:Int)+(k:Int)).toNat=i+k:=by omega
     have e2:(0:Int)≤(i:Int)+(k:Int):=by omega
     by_cases h3:f (i+k)=x
     ·have HA:Hid (∀ j,j < k+1→f (i+j)=x):=fun j hj=>by
       by_cases e:j=k
       ·rw[e]; exact h3
       ·exact hA.out j (by omega)
      have d3:(f (i+k) == x)=true:=by simpa using h3
      generalize f (i+k)=y at c0 d3
      clear h3
      go_wp2_with fail
      go_round
      case rel=>exact⟨k+1,by omega,by omega,by go_num,HA⟩
      case measure=>simp [intOf]; omega
     ·have HS:Hid (sameN f n x m i=k):=same_told hk hin hA.out (.inr (.inr h3))
      have d3:(f (i+k) == x)=false:=by simpa using h3
      generalize f (i+k)=y at c0 d3
      clear h3
      go_wp2_with fail
      go_ret
      exact⟨congrArg (fun q:Nat=>Ending.returned (.int .i64 (q:Int))) HS.out.symm,rfl⟩
   ·have HS:Hid (sameN f n x m i=k):=same_told hk hin hA.out (.inl (by omega))
    have d2:decide ((k:Int) < (m:Int))=false:=decide_eq_false (by omega)
    go_wp2_with fail
    go_ret
    exact⟨congrArg (fun q:Nat=>Ending.returned (.int .i64 (q:Int))) HS.out.symm,rfl⟩
  ·have HS:Hid (sameN f n x m i=k):=same_told hk hin hA.out (.inr (.inl (by omega)))
   have d1:decide ((i:Int)+(k:Int) < (n:Int))=false:=decide_eq_false (by omega)
   have d1':¬ (i:Int)+(k:Int) < (n:Int):=by omega
   go_wp2_with fail
   go_ret
   exact⟨congrArg (fun q:Nat=>Ending.returned (.int .i64 (q:Int))) HS.out.symm,rfl⟩
theorem sameAt_succ (f:Nat→Int) (n p:Nat):sameAt f n (p+1)=sameN f n (f p) 6 (p+1):=by
 unfold sameAt
 rw[if_neg (by omega),Nat.add_sub_cancel]
theorem runAt_18 {f:Nat→Int} {n i z:Nat} (hz:z=zerosAt f n i) (h:11≤z):runAt f n i=((18,(z:Int) - 11),z):=by
 subst hz
 unfold runAt
 rw[if_pos h]
theorem runAt_17 {f:Nat→Int} {n i z:Nat} (hz:z=zerosAt f n i) (h:¬ 11≤z) (h3:3≤z):runAt f n i=((17,(z:Int) - 3),z):=by
 subst hz
 unfold runAt
 rw[if_neg h,if_pos h3]
theorem runAt_16 {f:Nat→Int} {n i z q:Nat} (hz:z=zerosAt f n i) (hq:q=sameAt f n i) (h:¬ 11≤z) (h3:¬ 3≤z) (h4:3≤q):runAt f n i=((16,(q:Int) - 3),q):=by
 subst hz hq
 unfold runAt
 rw[if_neg h,if_neg h3,if_pos h4]
theorem runAt_x {f:Nat→Int} {n i z q:Nat} (hz:z=zerosAt f n i) (hq:q=sameAt f n i) (h:¬ 11≤z) (h3:¬ 3≤z) (h4:¬ 3≤q):runAt f n i=((f i,0),1):=by
 subst hz hq
 unfold runAt
 rw[if_neg h,if_neg h3,if_neg h4]
def RunSt (w w':World) (f:Nat→Int) (n i:Nat) (v:Value) (O:List (Int×Int)):Prop:=w'.ownsRow w.heap.size 165 2 v O.length (dcells O)∧Below w.heap.size w w'∧O ++ rest f n i=rest f n 0∧O.length≤i
theorem run_next {w w' w1:World} {f:Nat→Int} {n i:Nat} {v v1:Value} {O:List (Int×Int)} {o:Obj} {r:Int×Int} {k:Nat} (h:RunSt w w' f n i v O) (hi:i < n) (hr:runAt f n i=(r,k)) (hown:w1.ownsRow w.heap.size 165 2 v1 (O ++ [r]).length (dcells (O ++ [r]))) (hg:(w'.alloc o).grownBy w1 v.ownBlock):RunSt w w1 f n (i+k) v1 (O ++ [r]):=by
 obtain⟨h1,h2,h3,h4⟩:=h
 have hs:=h2.size
 refine⟨hown,(bal h2 o).grown hg (by simp; omega) (fun q hq=>(h1.lt q hq).1),?_,?_⟩
 ·rw[rest_more hi,hr] at h3
  rw[← h3]
  simp
 ·have:=runAt_pos f n i
  rw[hr] at this
  rw[List.length_append,List.length_singleton]
  have:1≤k:=this
  omega
set_option maxHeartbeats 1600000 in
theorem specRuns_good (a:Option Addr) (n cap:Nat) (f:Nat→Int) (w:World) (hC:Came w a n f) (hR:RunsRight f n):
  Calls Tryz.prog 111 #[.slice a n cap] w fun e w'=>∃ v,e=.returned (.tuple #[v,.bool true])∧w'.ownsRow w.heap.size 165 2 v (rest f n 0).length (dcells (rest f n 0))∧Below w.heap.size w w':=by
 have HC:Hid (Came w a n f):=hC
 have HR:=hid_of hR
 have hn:n≤320:=hR.1
 have H0:Hid (RunSt w (w.alloc (.cells #[] 165)) f n 0 (.slice (some ⟨w.heap.size,0,none⟩) 0 0) []):=
  ⟨⟨rfl,.inr ⟨w.heap.size,0,#[],rfl,Nat.le_refl _,heap_alloc_new w _,Nat.le_refl _,Nat.zero_le _,rfl,rfl⟩⟩,bstart _ _,rfl,Nat.le_refl _⟩
 clear hC hR
 go_enter Tryz.func111,Tryz.ntmps111
 go_wp2_with fail
 refine (specOk_yes a n cap f _ (HC.out.called (bstart _ _)) (by omega) HR.out).mono ?_
 rintro e w0 ⟨rfl,rfl⟩
 go_wp2_with fail
 go_loopg [4,5] (n+1) (fun gk v z w'=>∃ (i:Nat) (O:List (Int×Int)),i≤n∧z=.int .i64 i∧n - i≤gk∧Hid (RunSt w w' f n i v O))
 case atStart=>exact⟨0,[],Nat.zero_le _,rfl,by omega,H0⟩
 case round=>
  clear H0
  obtain⟨i,O,hi,rfl,hk,hS⟩:=hrel
  by_cases hlt:i < n
  ·have HCr:=hid_of (HC.out.called hS.out.2.1)
   have hz:=specSame a n cap f i 138 0 wr HCr.out (by omega) hi (by omega)
   have ez:sameN f n 0 138 i=zerosAt f n i:=rfl
   rw[ez] at hz
   have hzl:=zeros_le f n i
   have hzi:i+zerosAt f n i≤n:=same_in f n 0 138 i hi
   have hsl:=sameAt_le f n i
   have hsi:=sameAt_in (f:=f) hi
   have HO:=hid_of hS.out.2.2.2
   obtain⟨z,hze⟩:∃ z,z=zerosAt f n i:=⟨_,rfl⟩
   rw[← hze] at hz hzl hzi
   have HZE:=hid_of hze
   clear ez hze
   rcases HCr.out with h0 | ⟨g,off,rfl,hg,hc⟩
   ·omega
   ·have ci:=hc i hlt
    cases i with
    | zero=>
     rw[Nat.add_zero] at ci
     clear hsl hsi hc
     go_wp2_with fail
     refine hz.mono ?_
     rintro e w1 ⟨rfl,rfl⟩
     clear hz
     by_cases t1:11≤z
     ·have e1:decide ((11:Int)≤(z:Int))=true:=decide_eq_true (by omega)
      have HRA:=hid_of (runAt_18 HZE.out t1)
      have HRC:Hid (dcells [(18,(z:Int) - 11)]=[.int .i64 (18),.int .i64 ((z:Int) - 11)]):=rfl
      go_wp2_with (at_builtin; refine runs_append (S:=w.heap.size) (xs:=O) (ys:=[(18,(z:Int) - 11)]) rfl _ _ rfl rfl (World.ownsRow.alloc hS.out.1 _) (some ⟨w1.heap.size,0,none⟩) 1 1 rfl rfl (fun ad e=>by cases e; exact World.news_of_block (cs:=#[.int .i64 (18),.int .i64 ((z:Int) - 11)]) (t:=165) (fr:=(0,0)) (heap_alloc_new w1 _)) (fun h=>by cases h) (by have:=HO.out; simp only [List.length_cons,List.length_nil]; omega) (by have:=hS.out.2.1.size; simp; omega) ?_)
      intro v1 w5 y1 y2
      have HS1:Hid (RunSt w w5 f n (0+z) v1 (O ++ [(18,(z:Int) - 11)])):=run_next hS.out hlt HRA.out (by simpa using y1) y2
      clear y1 y2
      go_wp2_with fail
      go_roundg (n - (0+z))
      case measure=>omega
      case rel=>exact⟨0+z,_,by omega,by first | rfl | go_num | (congr 1; omega),Nat.le_refl _,HS1⟩
     ·have e1:decide ((11:Int)≤(z:Int))=false:=decide_eq_false (by omega)
      by_cases t2:3≤z
      ·have e2:decide ((3:Int)≤(z:Int))=true:=decide_eq_true (by omega)
       have HRA:=hid_of (runAt_17 HZE.out t1 t2)
       have HRC:Hid (dcells [(17,(z:Int) - 3)]=[.int .i64 (17),.int .i64 ((z:Int) - 3)]):=rfl
       go_wp2_with (at_builtin; refine runs_append (S:=w.heap.size) (xs:=O) (ys:=[(17,(z:Int) - 3)]) rfl _ _ rfl rfl (World.ownsRow.alloc hS.out.1 _) (some ⟨w1.heap.size,0,none⟩) 1 1 rfl rfl (fun ad e=>by cases e; exact World.news_of_block (cs:=#[.int .i64 (17),.int .i64 ((z:Int) - 3)]) (t:=165) (fr:=(0,0)) (heap_alloc_new w1 _)) (fun h=>by cases h) (by have:=HO.out; simp only [List.length_cons,List.length_nil]; omega) (by have:=hS.out.2.1.size; simp; omega) ?_)
       intro v1 w5 y1 y2
       have HS1:Hid (RunSt w w5 f n (0+z) v1 (O ++ [(17,(z:Int) - 3)])):=run_next hS.out hlt HRA.out (by simpa using y1) y2
       clear y1 y2
       go_wp2_with fail
       go_roundg (n - (0+z))
       case measure=>omega
       case rel=>exact⟨0+z,_,by omega,by first | rfl | go_num | (congr 1; omega),Nat.le_refl _,HS1⟩
      ·have e2:decide ((3:Int)≤(z:Int))=false:=decide_eq_false (by omega)
       have HRA:=hid_of (runAt_x (q:=0) HZE.out rfl t1 t2 (by omega))
       have HRC:Hid (dcells [(f (0),0)]=[.int .i64 (f (0)),.int .i64 (0)]):=rfl
       go_wp2_with (at_builtin; refine runs_append (S:=w.heap.size) (xs:=O) (ys:=[(f (0),0)]) rfl _ _ rfl rfl (World.ownsRow.alloc hS.out.1 _) (some ⟨w1.heap.size,0,none⟩) 1 1 rfl rfl (fun ad e=>by cases e; exact World.news_of_block (cs:=#[.int .i64 (f (0)),.int .i64 (0)]) (t:=165) (fr:=(0,0)) (heap_alloc_new w1 _)) (fun h=>by cases h) (by have:=HO.out; simp only [List.length_cons,List.length_nil]; omega) (by have:=hS.out.2.1.size; simp; omega) ?_)
       intro v1 w5 y1 y2
       have HS1:Hid (RunSt w w5 f n (0+1) v1 (O ++ [(f (0),0)])):=run_next hS.out hlt HRA.out (by simpa using y1) y2
       clear y1 y2
       go_wp2_with fail
       go_roundg (n - (0+1))
       case measure=>omega
       case rel=>exact⟨0+1,_,by omega,by first | rfl | go_num | (congr 1; omega),Nat.le_refl _,HS1⟩
    | succ p=>
     have cp:=hc p (by omega)
     have hq:=specSame (some ⟨g,off,none⟩) n cap f (p+1) 6 (f p) wr HCr.out (by omega) hi (by omega)
     rw[← sameAt_succ] at hq
     obtain⟨q,hqe⟩:∃ q,q=sameAt f n (p+1):=⟨_,rfl⟩
     rw[← hqe] at hq hsl hsi
     have HQE:=hid_of hqe
     have p1:(p:Int)+1 - 1=(p:Int):=by omega
     have p2:IntKind.i64.wrap (p:Int)=(p:Int):=by rw [IntKind.wrap_i64]; omega
     have p3:((p:Int)+1).toNat=p+1:=by omega
     have p4:(p:Int)+1 < (n:Int):=by omega
     have p5:(p:Int) < (n:Int):=by omega
     have p6:(0:Int)≤(p:Int)+1:=by omega
     have pc:((p+1:Nat):Int)=(p:Int)+1:=by omega
     rw[pc] at hz hq
     clear hqe hc
     go_wp2_with fail
     refine hz.mono ?_
     rintro e w1 ⟨rfl,rfl⟩
     clear hz
     go_wp2_with fail
     refine hq.mono ?_
     rintro e w1 ⟨rfl,rfl⟩
     clear hq
     by_cases t1:11≤z
     ·have e1:decide ((11:Int)≤(z:Int))=true:=decide_eq_true (by omega)
      have HRA:=hid_of (runAt_18 HZE.out t1)
      have HRC:Hid (dcells [(18,(z:Int) - 11)]=[.int .i64 (18),.int .i64 ((z:Int) - 11)]):=rfl
      go_wp2_with (at_builtin; refine runs_append (S:=w.heap.size) (xs:=O) (ys:=[(18,(z:Int) - 11)]) rfl _ _ rfl rfl (World.ownsRow.alloc hS.out.1 _) (some ⟨w1.heap.size,0,none⟩) 1 1 rfl rfl (fun ad e=>by cases e; exact World.news_of_block (cs:=#[.int .i64 (18),.int .i64 ((z:Int) - 11)]) (t:=165) (fr:=(0,0)) (heap_alloc_new w1 _)) (fun h=>by cases h) (by have:=HO.out; simp only [List.length_cons,List.length_nil]; omega) (by have:=hS.out.2.1.size; simp; omega) ?_)
      intro v1 w5 y1 y2
      have HS1:Hid (RunSt w w5 f n (p+1+z) v1 (O ++ [(18,(z:Int) - 11)])):=run_next hS.out hlt HRA.out (by simpa using y1) y2
      clear y1 y2
      go_wp2_with fail
      go_roundg (n - (p+1+z))
      case measure=>omega
      case rel=>exact⟨p+1+z,_,by omega,by first | rfl | go_num | (congr 1; omega),Nat.le_refl _,HS1⟩
     ·have e1:decide ((11:Int)≤(z:Int))=false:=decide_eq_false (by omega)
      by_cases t2:3≤z
      ·have e2:decide ((3:Int)≤(z:Int))=true:=decide_eq_true (by omega)
       have HRA:=hid_of (runAt_17 HZE.out t1 t2)
       have HRC:Hid (dcells [(17,(z:Int) - 3)]=[.int .i64 (17),.int .i64 ((z:Int) - 3)]):=rfl
       go_wp2_with (at_builtin; refine runs_append (S:=w.heap.size) (xs:=O) (ys:=[(17,(z:Int) - 3)]) rfl _ _ rfl rfl (World.ownsRow.alloc hS.out.1 _) (some ⟨w1.heap.size,0,none⟩) 1 1 rfl rfl (fun ad e=>by cases e; exact World.news_of_block (cs:=#[.int .i64 (17),.int .i64 ((z:Int) - 3)]) (t:=165) (fr:=(0,0)) (heap_alloc_new w1 _)) (fun h=>by cases h) (by have:=HO.out; simp only [List.length_cons,List.length_nil]; omega) (by have:=hS.out.2.1.size; simp; omega) ?_)
       intro v1 w5 y1 y2
       have HS1:Hid (RunSt w w5 f n (p+1+z) v1 (O ++ [(17,(z:Int) - 3)])):=run_next hS.out hlt HRA.out (by simpa using y1) y2
       clear y1 y2
       go_wp2_with fail
       go_roundg (n - (p+1+z))
       case measure=>omega
       case rel=>exact⟨p+1+z,_,by omega,by first | rfl | go_num | (congr 1; omega),Nat.le_refl _,HS1⟩
      ·have e2:decide ((3:Int)≤(z:Int))=false:=decide_eq_false (by omega)
       by_cases t3:3≤q
       ·have e3:decide ((3:Int)≤(q:Int))=true:=decide_eq_true (by omega)
        have HRA:=hid_of (runAt_16 HZE.out HQE.out t1 t2 t3)
        have HRC:Hid (dcells [(16,(q:Int) - 3)]=[.int .i64 (16),.int .i64 ((q:Int) - 3)]):=rfl
        go_wp2_with (at_builtin; refine runs_append (S:=w.heap.size) (xs:=O) (ys:=[(16,(q:Int) - 3)]) rfl _ _ rfl rfl (World.ownsRow.alloc hS.out.1 _) (some ⟨w1.heap.size,0,none⟩) 1 1 rfl rfl (fun ad e=>by cases e; exact World.news_of_block (cs:=#[.int .i64 (16),.int .i64 ((q:Int) - 3)]) (t:=165) (fr:=(0,0)) (heap_alloc_new w1 _)) (fun h=>by cases h) (by have:=HO.out; simp only [List.length_cons,List.length_nil]; omega) (by have:=hS.out.2.1.size; simp; omega) ?_)
        intro v1 w5 y1 y2
        have HS1:Hid (RunSt w w5 f n (p+1+q) v1 (O ++ [(16,(q:Int) - 3)])):=run_next hS.out hlt HRA.out (by simpa using y1) y2
        clear y1 y2
        go_wp2_with fail
        go_roundg (n - (p+1+q))
        case measure=>omega
        case rel=>exact⟨p+1+q,_,by omega,by first | rfl | go_num | (congr 1; omega),Nat.le_refl _,HS1⟩
       ·have e3:decide ((3:Int)≤(q:Int))=false:=decide_eq_false (by omega)
        have HRA:=hid_of (runAt_x HZE.out HQE.out t1 t2 t3)
        have HRC:Hid (dcells [(f (p+1),0)]=[.int .i64 (f (p+1)),.int .i64 (0)]):=rfl
        go_wp2_with (at_builtin; refine runs_append (S:=w.heap.size) (xs:=O) (ys:=[(f (p+1),0)]) rfl _ _ rfl rfl (World.ownsRow.alloc hS.out.1 _) (some ⟨w1.heap.size,0,none⟩) 1 1 rfl rfl (fun ad e=>by cases e; exact World.news_of_block (cs:=#[.int .i64 (f (p+1)),.int .i64 (0)]) (t:=165) (fr:=(0,0)) (heap_alloc_new w1 _)) (fun h=>by cases h) (by have:=HO.out; simp only [List.length_cons,List.length_nil]; omega) (by have:=hS.out.2.1.size; simp; omega) ?_)
        intro v1 w5 y1 y2
        have HS1:Hid (RunSt w w5 f n (p+1+1) v1 (O ++ [(f (p+1),0)])):=run_next hS.out hlt HRA.out (by simpa using y1) y2
        clear y1 y2
        go_wp2_with fail
        go_roundg (n - (p+1+1))
        case measure=>omega
        case rel=>exact⟨p+1+1,_,by omega,by first | rfl | go_num | (congr 1; omega),Nat.le_refl _,HS1⟩
  ·obtain rfl:i=n:=by omega
   have HZ:Hid (wr.ownsRow w.heap.size 165 2 u4 (rest f i 0).length (dcells (rest f i 0))∧Below w.heap.size w wr):=by
    have h:=hS.out.2.2.1
    rw[rest_none (Nat.lt_irrefl i),List.append_nil] at h
    rw[← h]
    exact⟨hS.out.1,hS.out.2.1⟩
   go_wp2_with fail
   go_ret2
   exact⟨_,rfl,HZ.out⟩
theorem specBits (x:Int) (w:World):Calls Tryz.prog 116 #[.int .i64 x] w fun e w'=>e=.returned (.int .i64 ((bitsOf x:Nat):Int))∧w'=w:=by
 by_cases h1:x=16
 ·subst h1
  go_enter Tryz.func116,Tryz.ntmps116
  go_wp2_with fail
  go_ret
  exact⟨rfl,rfl⟩
 ·by_cases h2:x=17
  ·subst h2
   go_enter Tryz.func116,Tryz.ntmps116
   go_wp2_with fail
   go_ret
   exact⟨rfl,rfl⟩
  ·by_cases h3:x=18
   ·subst h3
    go_enter Tryz.func116,Tryz.ntmps116
    go_wp2_with fail
    go_ret
    exact⟨rfl,rfl⟩
   ·have HB:Hid (bitsOf x=0):=by
     show bitsOf x=0
     unfold bitsOf
     rw[if_neg h1,if_neg h2,if_neg h3]
    have d1:(x == 16)=false:=by simpa using h1
    have d2:(x == 17)=false:=by simpa using h2
    have d3:(x == 18)=false:=by simpa using h3
    clear h1 h2 h3
    go_enter Tryz.func116,Tryz.ntmps116
    go_wp2_with fail
    go_ret
    exact⟨congrArg (fun q:Nat=>Ending.returned (.int .i64 (q:Int))) HB.out.symm,rfl⟩
end
section
open Go.RowKit Go.Joins Go.Sort CodeMath RunsMath
def RunsAnswer : Prop := ∀ (a : Option Addr) (n cap : Nat) (f : Nat → Int) (w : World), Came w a n f → n ≤ 1048576 → (∀ i, i < n → (Lit.int .i64 (f i)).wf = true) →
    (RunsRight f n → Calls Tryz.prog 174 #[.slice a n cap] w fun e w' => ∃ (a' : Option Addr) (cap' : Nat), e = .returned (.tuple #[.slice a' (rest f n 0).length cap', .bool true]) ∧ DSL w' w.heap.size a' (rest f n 0).length (fun j => (rest f n 0).getD j (0, 0)) ∧ (rest f n 0).length ≤ cap' ∧ Below w.heap.size w w') ∧
    (¬ RunsRight f n → Calls Tryz.prog 174 #[.slice a n cap] w fun e w' => ∃ (a' : Option Addr) (cap' : Nat), e = .returned (.tuple #[.slice a' 0 cap', .bool false]) ∧ Below w.heap.size w w')
def BitsAnswer:Prop:=∀ (x:Int) (w:World),(Lit.int .i64 x).wf=true→Calls Tryz.prog 177 #[.int .i64 x] w fun e w'=>e=.returned (.int .i64 ((bitsOf x:Nat):Int))∧∃ k os',w'=grow (w.drewN k) os'
theorem below_grow2 {w:World} (n:Nat) (os:Array Obj):Below w.heap.size w (grow (w.drewN n) os):=by
 refine⟨rfl,rfl,rfl,?_,fun k hk=>heap_grow_old (w.drewN n) os hk⟩
 rw[size_grow]
 show w.heap.size≤w.heap.size+os.size
 omega
end
end Go.Proofs.YtklpiihnbokkkaaGreatDoor
