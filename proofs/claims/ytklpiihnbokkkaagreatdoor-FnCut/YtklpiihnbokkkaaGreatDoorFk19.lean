/-
  Texts of the proof, put together.
-/
import Derived.Test.YtklpiihnbokkkaaGreatDoorFk13
import Derived.Shelf.SlSortCmp.QuietGrown
namespace Go.Proofs.YtklpiihnbokkkaaGreatDoor
open Go.RowKit Go.Joins Go.Sort RunsMath CodeMath
def timesOf (s x:Int):Int:=if s=16 then 3+x else if s=17 then 3+x else if s=18 then 11+x else 1
def RightRun (s x:Int):Prop:=0≤s∧s≤18∧0≤x∧x < 2 ^ bitsOf s
theorem extraBits_any (x:Int) (w:World):Calls Tryz.prog 177 #[.int .i64 x] w fun e w'=>e=.returned (.int .i64 ((bitsOf x:Nat):Int))∧w'=w:=by
 unfold bitsOf
 by_cases h1:x=16
 ·subst h1
  go_enter Tryz.func177,Tryz.ntmps177
  go_wp2_with fail
  go_ret
  exact⟨rfl,rfl⟩
 ·have d1:(x == 16)=false:=by simpa using h1
  rw[if_neg h1]
  by_cases h2:x=17
  ·subst h2
   go_enter Tryz.func177,Tryz.ntmps177
   go_wp2_with fail
   go_ret
   exact⟨rfl,rfl⟩
  ·have d2:(x == 17)=false:=by simpa using h2
   rw[if_neg h2]
   by_cases h3:x=18
   ·subst h3
    go_enter Tryz.func177,Tryz.ntmps177
    go_wp2_with fail
    go_ret
    exact⟨rfl,rfl⟩
   ·have d3:(x == 18)=false:=by simpa using h3
    rw[if_neg h3]
    go_enter Tryz.func177,Tryz.ntmps177
    go_wp2_with fail
    go_ret
    exact⟨rfl,rfl⟩
theorem times_any (s x:Int) (w:World) (h0:0≤x) (h1:x≤1000):Calls Tryz.prog 207 #[.agg #[.int .i64 s,.int .i64 x]] w fun e w'=>e=.returned (.int .i64 (timesOf s x))∧w'=w.alloc (.cells #[.int .i64 s,.int .i64 x] 165):=by
 unfold timesOf
 by_cases h1:s=16
 ·subst h1
  go_enter Tryz.func207,Tryz.ntmps207
  go_wp2_with fail
  go_ret
  exact⟨rfl,rfl⟩
 ·have d1:(s == 16)=false:=by simpa using h1
  rw[if_neg h1]
  by_cases h2:s=17
  ·subst h2
   go_enter Tryz.func207,Tryz.ntmps207
   go_wp2_with fail
   go_ret
   exact⟨rfl,rfl⟩
  ·have d2:(s == 17)=false:=by simpa using h2
   rw[if_neg h2]
   by_cases h3:s=18
   ·subst h3
    go_enter Tryz.func207,Tryz.ntmps207
    go_wp2_with fail
    go_ret
    exact⟨rfl,rfl⟩
   ·have d3:(s == 18)=false:=by simpa using h3
    rw[if_neg h3]
    go_enter Tryz.func207,Tryz.ntmps207
    go_wp2_with fail
    go_ret
    exact⟨rfl,rfl⟩
def RightPost (s x:Int) (w:World) (e:Ending) (w':World):Prop:=∃ b,e=.returned (.bool b)∧(b=true↔RightRun s x)∧∃ k os',w'=grow (w.drewN k) os'
theorem pow_bits (s:Int):bitsOf s≤7:=by
 unfold bitsOf
 split
 ·omega
 ·split
  ·omega
  ·split <;> omega
theorem wrap_bits {m:Nat} (h:m≤7):IntKind.i64.wrap (2 ^ m)=2 ^ m:=by
 obtain h | h | h | h | h | h | h | h:m=0∨m=1∨m=2∨m=3∨m=4∨m=5∨m=6∨m=7:=by omega
 all_goals (subst h; decide +kernel)
theorem grown_box (w:World) (o:Obj) (n:Nat):∃ k os',(w.alloc o).drewN n=grow (w.drewN k) os':=⟨n,#[o],by rw [alloc_eq_grow]; rfl⟩
def ArePost (f:Nat→Int) (n:Nat) (w:World) (e:Ending) (w':World):Prop:=∃ b,e=.returned (.bool b)∧(b=true↔OkLens f n)∧w'=w
set_option maxHeartbeats 800000 in
theorem are_any (a:Option Addr) (n cap:Nat) (f:Nat→Int) (w:World) (hC:Came w a n f) (hn:n≤1048576):
  Calls Tryz.prog 198 #[.slice a n cap] w (ArePost f n w):=by
 have HC:=hid_of hC
 clear hC
 go_enter Tryz.func198,Tryz.ntmps198
 go_wp2_with fail
 go_loop [7] (fun i=>∃ j:Nat,j≤n∧i=.int .i64 j∧Hid (OkLens f j)) (fun i=>n - (intOf i).toNat)
 case atStart=>exact⟨0,Nat.zero_le _,rfl,fun i hi=>absurd hi (Nat.not_lt_zero i)⟩
 case round=>
  obtain⟨j,hj,rfl,hok⟩:=hrel
  by_cases hlt:j < n
  ·rcases HC.out with h0 | ⟨g,off,rfl,hg,hc⟩
   ·omega
   ·have c0:=hc j hlt
    clear hc
    by_cases hin:0≤f j∧f j≤15
    ·have HK:Hid (OkLens f (j+1)):=fun i hi=>by
      by_cases e:i=j
      ·rw[e]; exact hin
      ·exact hok.out i (by omega)
     have d0:decide (f j < 0)=false:=decide_eq_false (by omega)
     have d1:decide (15 < f j)=false:=decide_eq_false (by omega)
     clear hin
     go_wp2_with fail
     go_round
     case rel=>exact⟨j+1,by omega,by go_num,HK⟩
     case measure=>simp [intOf]; omega
    ·have HN:Hid (¬ OkLens f n):=fun h=>hin (h j hlt)
     by_cases h0:f j < 0
     ·have d0:decide (f j < 0)=true:=decide_eq_true h0
      clear hin
      go_wp2_with fail
      go_ret
      exact⟨false,rfl,by simp [HN.out],rfl⟩
     ·have d0:decide (f j < 0)=false:=decide_eq_false h0
      have d1:decide (15 < f j)=true:=decide_eq_true (by omega)
      clear hin
      go_wp2_with fail
      go_ret
      exact⟨false,rfl,by simp [HN.out],rfl⟩
  ·obtain rfl:j=n:=by omega
   go_wp2_with fail
   go_ret
   exact⟨true,rfl,by simp [hok.out],rfl⟩
def alikeN (f:Nat→Int) (n i:Nat):Nat:=sameN f n (f i) n i
set_option maxHeartbeats 4000000 in
theorem alike_any (a:Option Addr) (n cap:Nat) (f:Nat→Int) (i:Nat) (w:World) (hC:Came w a n f) (hn:n≤1048576) (hi:i < n):
  Calls Tryz.prog 222 #[.slice a n cap,.int .i64 (i:Int)] w fun e w'=>e=.returned (.int .i64 ((alikeN f n i:Nat):Int))∧∃ m,w'=w.drewN m:=by
 rcases hC with h0 | ⟨g,off,rfl,hg,hc⟩
 ·omega
 have HC:=hid_of hc
 have ci:=hc i hi
 clear hc
 go_enter Tryz.func222,Tryz.ntmps222
 go_wp2_with fail
 go_loopw [5] (fun z w'=>∃ k m:Nat,i+k≤n∧z=.int .i64 ((i+k:Nat):Int)∧w'=w.drewN m∧Hid (∀ j,j < k→f (i+j)=f i)) (fun z _=>n - (intOf z).toNat)
 case atStart=>exact⟨0,0,by omega,rfl,rfl,fun j hj=>absurd hj (Nat.not_lt_zero j)⟩
 case round=>
  obtain⟨k,m,hk,rfl,rfl,hA⟩:=hrel
  by_cases hlt:i+k < n
  ·have d1:decide ((i:Int)+(k:Int) < (n:Int))=true:=decide_eq_true (by omega)
   have d1':(i:Int)+(k:Int) < (n:Int):=by omega
   have e1:((i:Int)+(k:Int)).toNat=i+k:=by omega
   have e2:(0:Int)≤(i:Int)+(k:Int):=by omega
   have c0:=HC.out (i+k) hlt
   by_cases h3:f (i+k)=f i
   ·have HA:Hid (∀ j,j < k+1→f (i+j)=f i):=fun j hj=>by
     by_cases e:j=k
     ·rw[e]; exact h3
     ·exact hA.out j (by omega)
    rw[h3] at c0
    clear h3
    go_wp2_with fail
    go_region
    go_wp2_with fail
    go_roundw
    case rel=>exact⟨k+1,_,by omega,by go_num,rfl,HA⟩
    case measure=>simp [intOf]; omega
   ·have HS:Hid (alikeN f n i=k):=same_told (by omega) (by omega) hA.out (.inr (.inr h3))
    have d3:(f (i+k) == f i)=false:=by simpa using h3
    go_wp2_with fail
    go_region
    go_wp2_with fail
    go_ret
    refine⟨?_,_,rfl⟩
    rw[HS.out]
    first | rfl | go_num | (congr 2; omega)
  ·have HS:Hid (alikeN f n i=k):=same_told (by omega) (by omega) hA.out (.inr (.inl (by omega)))
   have d1:decide ((i:Int)+(k:Int) < (n:Int))=false:=decide_eq_false (by omega)
   have d1':¬ (i:Int)+(k:Int) < (n:Int):=by omega
   go_wp2_with fail
   go_region
   go_wp2_with fail
   go_ret
   refine⟨?_,_,rfl⟩
   rw[HS.out]
   first | rfl | go_num | (congr 2; omega)
end Go.Proofs.YtklpiihnbokkkaaGreatDoor
