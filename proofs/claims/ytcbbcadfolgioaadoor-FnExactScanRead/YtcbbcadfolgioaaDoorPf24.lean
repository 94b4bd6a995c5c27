/-
  Texts of the proof, put together.
-/
import Derived.Test.YtcbbcadfolgioaaDoorPf16
namespace Go.Proofs.YtcbbcadfolgioaaDoor
section
open Go.RowKit Go.Joins RastMath
def RowBytesAnswer:Prop:=∀ (x c d:Int) (w:World),(Lit.int .i64 x).wf=true→(Lit.int .i64 c).wf=true→(Lit.int .i64 d).wf=true→Calls Tryd.prog 82 #[.int .i64 x,.int .i64 c,.int .i64 d] w fun e w'=>e=.returned (.int .i64 (rowB x c d))∧Below w.heap.size w w'
end
section
open Go.RowKit Go.Joins RastMath
theorem rowBytes_answer:RowBytesAnswer:=by
 intro x c d w _ _ _
 unfold rowB
 by_cases hx:SideR x
 ·have hs:=isSide_any x
  rw[decide_eq_true hx] at hs
  by_cases hd:DepthR c d
  ·have hk:=implDepth c d
   rw[decide_eq_true hd] at hk
   rw[if_pos ⟨hx,hd⟩]
   have hc:=chan_range c
   have h5:=five_range (depth_five hd)
   have hch:=implChannels c
   obtain⟨x0,x1⟩:=hx
   generalize chan c=n at hc hch ⊢
   have m1:0≤x * n∧x * n≤96:=⟨Int.mul_nonneg (by omega) hc.1,by
    have:=Int.mul_le_mul x1 hc.2 hc.1 (by omega)
    omega⟩
   have m2:0≤x * n * d∧x * n * d≤1536:=⟨Int.mul_nonneg m1.1 (by omega),by
    have:=Int.mul_le_mul m1.2 h5.2 (by omega) (by omega)
    omega⟩
   have hf:=fun W=>rowFor_any (x * n * d) W m2.1 (by omega)
   go_enter Tryd.func82,Tryd.ntmps82
   go_wp2_with fail
   refine (hs _).mono ?_
   rintro e w1 ⟨rfl,rfl⟩
   go_wp2_with fail
   refine (hk _).mono ?_
   rintro e w1 ⟨rfl,hB⟩
   have HB:=hid_of hB
   clear hB
   go_wp2_with fail
   refine (hch _).mono ?_
   rintro e w2 ⟨rfl,rfl⟩
   go_wp2_with fail
   refine (hf _).mono ?_
   rintro e w2 ⟨rfl,rfl⟩
   go_wp2_with fail
   go_ret
   exact⟨rfl,HB.out⟩
  ·have hk:=implDepth c d
   rw[decide_eq_false hd] at hk
   rw[if_neg (fun h=>hd h.2)]
   go_enter Tryd.func82,Tryd.ntmps82
   go_wp2_with fail
   refine (hs _).mono ?_
   rintro e w1 ⟨rfl,rfl⟩
   go_wp2_with fail
   refine (hk _).mono ?_
   rintro e w1 ⟨rfl,hB⟩
   have HB:=hid_of hB
   clear hB
   go_wp2_with fail
   go_ret
   exact⟨rfl,HB.out⟩
 ·have hs:=isSide_any x
  rw[decide_eq_false hx] at hs
  rw[if_neg (fun h=>hx h.1)]
  go_enter Tryd.func82,Tryd.ntmps82
  go_wp2_with fail
  refine (hs _).mono ?_
  rintro e w1 ⟨rfl,rfl⟩
  go_wp2_with fail
  go_ret
  exact⟨rfl,Below.refl _ _⟩
end
section
open Go.RowKit Go.Joins TakeMath FiltMath
theorem paethOk_any (n:Int) (w:World):Calls Tryd.prog 117 #[.int .i64 n] w fun e w'=>e=.returned (.bool (decide (PR n)))∧w'=w:=by
 by_cases h0:-1000≤n
 ·have d0:decide (-1000≤n)=true:=decide_eq_true h0
  by_cases h1:n≤1000
  ·have d1:decide (n≤1000)=true:=decide_eq_true h1
   rw[decide_eq_true (show PR n from ⟨h0,h1⟩)]
   go_enter Tryd.func117,Tryd.ntmps117
   go_wp2_with fail
   go_ret
   exact⟨rfl,rfl⟩
  ·have d1:decide (n≤1000)=false:=decide_eq_false h1
   rw[decide_eq_false (show ¬ PR n from fun h=>h1 h.2)]
   go_enter Tryd.func117,Tryd.ntmps117
   go_wp2_with fail
   go_ret
   exact⟨rfl,rfl⟩
 ·have d0:decide (-1000≤n)=false:=decide_eq_false h0
  rw[decide_eq_false (show ¬ PR n from fun h=>h0 h.1)]
  go_enter Tryd.func117,Tryd.ntmps117
  go_wp2_with fail
  go_ret
  exact⟨rfl,rfl⟩
theorem distance_any (a b:Int) (w:World) (ha:-100000≤a∧a≤100000) (hb:-100000≤b∧b≤100000):Calls Tryd.prog 118 #[.int .i64 a,.int .i64 b] w fun e w'=>e=.returned (.int .i64 (siz (b - a)))∧w'=w:=by
 go_enter Tryd.func118,Tryd.ntmps118
 go_wp2_with fail
 all_goals
  go_ret
  refine⟨?_,rfl⟩
  show Ending.returned (Value.int .i64 _)=_
  congr 2
  unfold siz
  split <;> omega
def near1 (a b p:Int):Int:=if siz (p - b) < siz (p - a) then b else a
theorem near_paeth (a b c:Int):near1 (near1 a b (a+b - c)) c (a+b - c)=paeth a b c:=by
 unfold near1 paeth
 by_cases h1:siz (a+b - c - b) < siz (a+b - c - a)
 ·rw[if_pos h1]
  by_cases h2:siz (a+b - c - c) < siz (a+b - c - b)
  ·rw[if_pos h2,if_neg (by omega),if_neg (by omega)]
  ·rw[if_neg h2,if_neg (by omega),if_pos (by omega)]
 ·rw[if_neg h1]
  by_cases h2:siz (a+b - c - c) < siz (a+b - c - a)
  ·rw[if_pos h2,if_neg (by omega),if_neg (by omega)]
  ·rw[if_neg h2,if_pos (by omega)]
theorem two_first (b c:Int) (w:World):(Instr.index 116 (.agg #[.int .i64 b,.int .i64 c]) (.int .i64 0)).run Tryd.prog w=.ok (.int .i64 b) w:=by kernel_rfl
theorem two_second (b c:Int) (w:World):(Instr.index 116 (.agg #[.int .i64 b,.int .i64 c]) (.int .i64 1)).run Tryd.prog w=.ok (.int .i64 c) w:=by kernel_rfl
set_option maxHeartbeats 1600000 in
theorem implPaeth_in (a b c:Int) (w:World) (ha:PR a) (hb:PR b) (hc:PR c):Calls Tryd.prog 116 #[.int .i64 a,.int .i64 b,.int .i64 c] w fun e w'=>e=.returned (.int .i64 (paeth a b c))∧w'=w:=by
 have k1:=fun W=>paethOk_any a W
 have k2:=fun W=>paethOk_any b W
 have k3:=fun W=>paethOk_any c W
 rw[decide_eq_true ha] at k1
 rw[decide_eq_true hb] at k2
 rw[decide_eq_true hc] at k3
 unfold PR at ha hb hc
 obtain⟨p,hp⟩:∃ p,p=a+b - c:=⟨_,rfl⟩
 have HE:Hid (near1 (near1 a b p) c p=paeth a b c):=by show _=_; rw [hp]; exact near_paeth a b c
 have hpr:-3000≤p∧p≤3000:=by omega
 have hps:=hp.symm
 obtain⟨m,hm⟩:∃ m,m=near1 a b p:=⟨_,rfl⟩
 have hmr:-1000≤m∧m≤1000:=by rw [hm]; unfold near1; split <;> omega
 rw[← hm] at HE
 have s1:=fun W=>distance_any b p W (by omega) (by omega)
 have s2:=fun W=>distance_any a p W (by omega) (by omega)
 have s3:=fun W=>distance_any c p W (by omega) (by omega)
 have s4:=fun W=>distance_any m p W (by omega) (by omega)
 have HM:=hid_of hm
 clear hm hp
 have x0:=two_first b c
 have x1:=two_second b c
 go_enter Tryd.func116,Tryd.ntmps116
 go_wp2_with fail
 refine (k1 _).mono ?_
 rintro e w1 ⟨rfl,rfl⟩
 go_wp2_with fail
 refine (k2 _).mono ?_
 rintro e w1 ⟨rfl,rfl⟩
 go_wp2_with fail
 refine (k3 _).mono ?_
 rintro e w1 ⟨rfl,rfl⟩
 go_wp2_with fail
 go_loop [8,33] (fun v i=>∃ j:Nat,i=.int .i64 (j:Int)∧(j=0∧v=.int .i64 a∨j=1∧v=.int .i64 m∨j=2∧v=.int .i64 (paeth a b c))) (fun _ i=>2 - (intOf i).toNat)
 case atStart=>exact⟨0,rfl,.inl ⟨rfl,rfl⟩⟩
 case round=>
  obtain⟨j,rfl,⟨rfl,rfl⟩ | ⟨rfl,rfl⟩ | ⟨rfl,rfl⟩⟩:=hrel
  ·go_wp2_with fail
   refine (s1 _).mono ?_
   rintro e w1 ⟨rfl,rfl⟩
   go_wp2_with fail
   refine (s2 _).mono ?_
   rintro e w1 ⟨rfl,rfl⟩
   by_cases hlt:siz (p - b) < siz (p - a)
   ·have d1:decide (siz (p - b) < siz (p - a))=true:=decide_eq_true hlt
    have hmb:m=b:=by rw [HM.out]; unfold near1; rw [if_pos hlt]
    go_wp2_with fail
    go_round
    case rel=>exact⟨1,rfl,.inr (.inl ⟨rfl,by rw [hmb]⟩)⟩
    case measure=>simp [intOf]
   ·have d1:decide (siz (p - b) < siz (p - a))=false:=decide_eq_false hlt
    have hma:m=a:=by rw [HM.out]; unfold near1; rw [if_neg hlt]
    go_wp2_with fail
    go_round
    case rel=>exact⟨1,rfl,.inr (.inl ⟨rfl,by rw [hma]⟩)⟩
    case measure=>simp [intOf]
  ·go_wp2_with fail
   refine (s3 _).mono ?_
   rintro e w1 ⟨rfl,rfl⟩
   go_wp2_with fail
   refine (s4 _).mono ?_
   rintro e w1 ⟨rfl,rfl⟩
   by_cases hlt:siz (p - c) < siz (p - m)
   ·have d1:decide (siz (p - c) < siz (p - m))=true:=decide_eq_true hlt
    have HR:Hid (c=paeth a b c):=by show c=_; rw [← HE.out]; unfold near1; rw [if_pos hlt]
    go_wp2_with fail
    go_round
    case rel=>exact⟨2,rfl,.inr (.inr ⟨rfl,congrArg _ HR.out⟩)⟩
    case measure=>simp [intOf]
   ·have d1:decide (siz (p - c) < siz (p - m))=false:=decide_eq_false hlt
    have HR:Hid (m=paeth a b c):=by show m=_; rw [← HE.out]; unfold near1; rw [if_neg hlt]
    go_wp2_with fail
    go_round
    case rel=>exact⟨2,rfl,.inr (.inr ⟨rfl,congrArg _ HR.out⟩)⟩
    case measure=>simp [intOf]
  ·go_wp2_with fail
   go_ret
   exact⟨rfl,rfl⟩
theorem isFilterKind_any (k:Int) (w:World):Calls Tryd.prog 87 #[.int .i64 k] w fun e w'=>e=.returned (.bool (decide (0≤k∧k≤4)))∧w'=w:=by
 by_cases h0:0≤k
 ·have d0:decide (0≤k)=true:=decide_eq_true h0
  by_cases h1:k < 5
  ·have d1:decide (k < 5)=true:=decide_eq_true h1
   rw[decide_eq_true (show 0≤k∧k≤4 by omega)]
   go_enter Tryd.func87,Tryd.ntmps87
   go_wp2_with fail
   go_ret
   exact⟨rfl,rfl⟩
  ·have d1:decide (k < 5)=false:=decide_eq_false h1
   rw[decide_eq_false (show ¬ (0≤k∧k≤4) by omega)]
   go_enter Tryd.func87,Tryd.ntmps87
   go_wp2_with fail
   go_ret
   exact⟨rfl,rfl⟩
 ·have d0:decide (0≤k)=false:=decide_eq_false h0
  rw[decide_eq_false (show ¬ (0≤k∧k≤4) by omega)]
  go_enter Tryd.func87,Tryd.ntmps87
  go_wp2_with fail
  go_ret
  exact⟨rfl,rfl⟩
end
section
open Go.RowKit Go.Joins Go.Maps TakeMath FiltMath
open Go.ChangeMaps (setBlock heap_setBlock_same heap_setBlock_other)
theorem keyI13:Keyed Tryd.prog 3:=int_keyed Tryd.underlying3
theorem kind_put {w:World} {M clock:Nat} {es:Array MapEntry} (h1:w.heap[M]?=some (.map es clock)) (hk:∀ e∈es.toList,∃ n:Int,(Lit.int .i64 n).wf=true∧e.key=.int .i64 n) {k:Int} (hw:(Lit.int .i64 k).wf=true) (hno:∀ e∈es.toList,e.key≠.int .i64 k) (v:Value):
  (Instr.mapUpdate 109 (.map (some M)) (.int .i64 k) v).run Tryd.prog w=.ok () (setBlock w M (.map (es.push ⟨.int .i64 k,v,clock⟩) (clock+1))):=by
 have hkey:=keyOf_int_mk (P:=Tryd.prog) Tryd.underlying3 hw
 rcases keyI13.find w hkey es.toList (fun e he=>by obtain⟨n,hn,hq⟩:=hk e he; rw [hq]; exact⟨_,keyOf_int_mk Tryd.underlying3 hn⟩) with ⟨f1,f2⟩ | ⟨j,e0,f1,f2,f3⟩
 ·simp[Instr.mapUpdate,run_underlying Tryd.underlying109,MapKept.run_getObj_map h1,keyI13.check w false hkey,f1,MapKept.run_setObj_map _ h1,Result.andThen,setBlock]
 ·exact absurd f3 (hno e0 (List.mem_of_getElem? f2))
abbrev fnV (f:Nat):Value:=.func (.func f) #[] #[]
def kindsE:Array MapEntry:=#[⟨.int .i64 0,fnV 108,0⟩,⟨.int .i64 1,fnV 109,1⟩,⟨.int .i64 2,fnV 110,2⟩,⟨.int .i64 3,fnV 111,3⟩,⟨.int .i64 4,fnV 112,4⟩]
theorem wf_small13 (n:Int) (h:0≤n∧n≤4):(Lit.int .i64 n).wf=true:=by
 simp[Lit.wf,IntKind.min,IntKind.max,IntKind.signed,IntKind.bits]
 omega
theorem kind_step {w W:World} {M clock:Nat} {es:Array MapEntry} (h1:W.heap[M]?=some (.map es clock)) (hM:w.heap.size≤M) (hb:Below w.heap.size w W) (hk:∀ e∈es.toList,∃ n:Int,(Lit.int .i64 n).wf=true∧e.key=.int .i64 n) {k:Int} (hw:(Lit.int .i64 k).wf=true) (hno:∀ e∈es.toList,e.key≠.int .i64 k) (v:Value):
  ∃ W',(Instr.mapUpdate 109 (.map (some M)) (.int .i64 k) v).run Tryd.prog W=.ok () W'∧W'.heap[M]?=some (.map (es.push ⟨.int .i64 k,v,clock⟩) (clock+1))∧Below w.heap.size w W':=
 ⟨_,kind_put h1 hk hw hno v,heap_setBlock_same h1 _,⟨hb.os,hb.tape,hb.output,by simp [setBlock]; exact hb.size,fun i hi=>(heap_setBlock_other h1 _ (by omega)).trans (hb.block i hi)⟩⟩
theorem kinds_any (w:World):Calls Tryd.prog 102 #[] w fun e w'=>e=.returned (.map (some w.heap.size))∧w'.heap[w.heap.size]?=some (.map kindsE 5)∧Below w.heap.size w w':=by
 have hmm:=@run_makeMap Tryd.prog
 obtain⟨w1,p1,g1,b1⟩:=kind_step (w:=w) (heap_alloc_new w (.map #[] 0)) (Nat.le_refl _) (bstart _ _) (by simp) (wf_small13 0 (by omega)) (by simp) (fnV 108)
 obtain⟨w2,p2,g2,b2⟩:=kind_step (w:=w) g1 (Nat.le_refl _) b1 (by simp; exact by decide) (wf_small13 1 (by omega)) (by simp) (fnV 109)
 obtain⟨w3,p3,g3,b3⟩:=kind_step (w:=w) g2 (Nat.le_refl _) b2 (by simp; exact⟨by decide,by decide⟩) (wf_small13 2 (by omega)) (by simp) (fnV 110)
 obtain⟨w4,p4,g4,b4⟩:=kind_step (w:=w) g3 (Nat.le_refl _) b3 (by simp; exact⟨by decide,by decide,by decide⟩) (wf_small13 3 (by omega)) (by simp) (fnV 111)
 obtain⟨w5,p5,g5,b5⟩:=kind_step (w:=w) g4 (Nat.le_refl _) b4 (by simp; exact⟨by decide,by decide,by decide,by decide⟩) (wf_small13 4 (by omega)) (by simp) (fnV 112)
 have H5:Hid (w5.heap[w.heap.size]?=some (.map kindsE 5)∧Below w.heap.size w w5):=⟨g5,b5⟩
 clear g1 g2 g3 g4 g5 b1 b2 b3 b4 b5
 go_enter Tryd.func102,Tryd.ntmps102
 go_wp2_with fail
 go_ret
 exact⟨rfl,H5.out⟩
def kindF (k:Int):Nat:=if k=0 then 108 else if k=1 then 109 else if k=2 then 110 else if k=3 then 111 else 112
theorem kindsE_keys:∀ e∈kindsE.toList,∃ l,keyOf Tryd.prog 3 e.key=some l:=by
 intro e he
 have hm:∀ n:Int,0≤n∧n≤4→∃ l,keyOf Tryd.prog 3 (.int .i64 n)=some l:=fun n hn=>⟨_,keyOf_int_mk Tryd.underlying3 (wf_small13 n hn)⟩
 simp only [kindsE,List.mem_cons,List.not_mem_nil,or_false] at he
 rcases he with rfl | rfl | rfl | rfl | rfl
 ·exact hm 0 (by omega)
 ·exact hm 1 (by omega)
 ·exact hm 2 (by omega)
 ·exact hm 3 (by omega)
 ·exact hm 4 (by omega)
theorem kind_take {w:World} {M:Nat} (h1:w.heap[M]?=some (.map kindsE 5)) (k:Int) (hk:0≤k∧k≤4):(Instr.lookup 109 (.map (some M)) (.int .i64 k) false).run Tryd.prog w=.ok (fnV (kindF k)) w:=by
 have hkey:=keyOf_int_mk (P:=Tryd.prog) Tryd.underlying3 (wf_small13 k hk)
 rcases keyI13.find w hkey kindsE.toList kindsE_keys with ⟨f1,f2⟩ | ⟨j,e0,f1,f2,f3⟩
 ·refine absurd rfl (f2 ⟨.int .i64 k,fnV (kindF k),k.toNat⟩ ?_)
  obtain rfl | rfl | rfl | rfl | rfl:k=0∨k=1∨k=2∨k=3∨k=4:=by omega
  all_goals simp [kindsE,kindF]
 ·have hm:=List.mem_of_getElem? f2
  have hv:e0.val=fnV (kindF k):=by
   simp only [kindsE,List.mem_cons,List.not_mem_nil,or_false] at hm
   rcases hm with rfl | rfl | rfl | rfl | rfl <;> (cases f3; rfl)
  rw[← hv]
  simp[Instr.lookup,run_underlying Tryd.underlying109,MapKept.run_getObj_map h1,keyI13.check w _ hkey,f1,Result.andThen]
abbrev bsV (l u c:Int):Value:=.agg #[.int .i64 l,.int .i64 u,.int .i64 c]
theorem nothing_any (l u c:Int) (w:World):Calls Tryd.prog 108 #[bsV l u c] w fun e w'=>e=.returned (.int .i64 (told 0 l u c))∧Below w.heap.size w w':=by
 go_enter Tryd.func108,Tryd.ntmps108
 go_wp2_with fail
 go_ret
 exact⟨rfl,bstart _ _⟩
theorem ahead_any (l u c:Int) (w:World):Calls Tryd.prog 109 #[bsV l u c] w fun e w'=>e=.returned (.int .i64 (told 1 l u c))∧Below w.heap.size w w':=by
 go_enter Tryd.func109,Tryd.ntmps109
 go_wp2_with fail
 go_ret
 exact⟨rfl,bstart _ _⟩
theorem above_any (l u c:Int) (w:World):Calls Tryd.prog 110 #[bsV l u c] w fun e w'=>e=.returned (.int .i64 (told 2 l u c))∧Below w.heap.size w w':=by
 go_enter Tryd.func110,Tryd.ntmps110
 go_wp2_with fail
 go_ret
 exact⟨rfl,bstart _ _⟩
theorem middle_any (l u c:Int) (w:World) (hl:0≤l∧l < 256) (hu:0≤u∧u < 256):Calls Tryd.prog 111 #[bsV l u c] w fun e w'=>e=.returned (.int .i64 (told 3 l u c))∧Below w.heap.size w w':=by
 have t2:(l+u).tdiv 2=(l+u) / 2:=Int.tdiv_eq_ediv_of_nonneg (by omega)
 go_enter Tryd.func111,Tryd.ntmps111
 go_wp2_with fail
 go_ret
 exact⟨rfl,bstart _ _⟩
theorem nearest_any (l u c:Int) (w:World) (hl:0≤l∧l < 256) (hu:0≤u∧u < 256) (hc:0≤c∧c < 256):Calls Tryd.prog 112 #[bsV l u c] w fun e w'=>e=.returned (.int .i64 (told 4 l u c))∧Below w.heap.size w w':=by
 have hp:=fun W=>implPaeth_in l u c W ⟨by omega,by omega⟩ ⟨by omega,by omega⟩ ⟨by omega,by omega⟩
 go_enter Tryd.func112,Tryd.ntmps112
 go_wp2_with fail
 refine (hp _).mono ?_
 rintro e w1 ⟨rfl,rfl⟩
 go_wp2_with fail
 go_ret
 exact⟨rfl,bstart _ _⟩
end
section
open Go.RowKit Go.Joins TakeMath FiltMath
set_option maxHeartbeats 1600000 in
theorem beside_any (a:Option Addr) (n cap:Nat) (r u:Nat→Int) (ga m ca unit i:Nat) (w:World) (hu:1≤unit∧unit≤8) (hi:i < m) (hm:m≤200) (hr:∀ i,0≤r i∧r i < 256) (hub:∀ i,0≤u i∧u i < 256) (hA:BAt w ga m u)
  (hrow:unit≤i→∃ g,a=some ⟨g,0,none⟩∧i - unit < n∧g < w.heap.size∧w.cell? ⟨g,i - unit,none⟩=some (.int .u8 (r (i - unit)))):
  Calls Tryd.prog 103 #[.slice a n cap,.slice (some ⟨ga,0,none⟩) m ca,.int .i64 (i:Int),.int .i64 (unit:Int)] w fun e w'=>e=.returned (bsV (aheadB r unit i) (u i) (aheadB u unit i))∧Below w.heap.size w w':=by
 obtain⟨hga,hAc⟩:=hA
 have hB1:=hub i
 have HAC:=hid_of hAc
 have ci:=hAc i hi
 obtain⟨B,hB⟩:∃ B,B=u i:=⟨_,rfl⟩
 rw[← hB] at hB1 ci
 have HBT:Hid (u i=B):=hB.symm
 have w0:IntKind.i64.wrap B=B:=by rw [IntKind.wrap_i64]; omega
 have l1:(i:Int) < (m:Int):=by omega
 have hgn0:¬ ga=w.heap.size:=by omega
 have hgn00:¬ ga=w.heap.size+1:=by omega
 have hgl0:ga < w.heap.size+1:=by omega
 have hgl00:ga < w.heap.size+1+1:=by omega
 have ci1:∀ o1:Obj,(w.alloc o1).cell? ⟨ga,i,none⟩=some (.int .u8 B):=fun o1=>by rw [grow_cell o1 hga]; exact ci
 clear hB hAc
 by_cases hq:unit≤i
 ·obtain⟨g,rfl,hg1,hg2,hg3⟩:=hrow hq
  obtain⟨j,hj⟩:∃ j,j=i - unit:=⟨_,rfl⟩
  rw[← hj] at hg1 hg3
  have hjs:j < m:=by omega
  have cj:=HAC.out j hjs
  have hC1:=hub j
  obtain⟨C,hC⟩:∃ C,C=u j:=⟨_,rfl⟩
  rw[← hC] at cj hC1
  have HA:Hid (aheadB r unit i=r j∧aheadB u unit i=C):=by
   unfold aheadB
   rw[if_pos hq,if_pos hq,← hj]
   exact⟨rfl,hC.symm⟩
  have e1:(i:Int) - (unit:Int)=(j:Int):=by omega
  have w1:IntKind.i64.wrap (j:Int)=(j:Int):=by rw [IntKind.wrap_i64]; omega
  have w2:IntKind.i64.wrap C=C:=by rw [IntKind.wrap_i64]; omega
  have hrj:=hr j
  obtain⟨R,hR⟩:∃ R,R=r j:=⟨_,rfl⟩
  rw[← hR] at hg3 hrj HA
  have w3:IntKind.i64.wrap R=R:=by rw [IntKind.wrap_i64]; omega
  have dq:decide ((unit:Int)≤(i:Int))=true:=decide_eq_true (by omega)
  have x1:(j:Int) < (m:Int):=by omega
  have x2:(j:Int) < (n:Int):=by omega
  have hgn1:¬ g=w.heap.size:=by omega
  have hgn2:¬ g=w.heap.size+1:=by omega
  have hg4:g < w.heap.size+1:=by omega
  have hg5:g < w.heap.size+1+1:=by omega
  have c1:∀ o1 o2:Obj,((w.alloc o1).alloc o2).cell? ⟨g,j,none⟩=some (.int .u8 R):=fun o1 o2=>by rw [grow_cell o2 (grow_lt o1 hg2),grow_cell o1 hg2]; exact hg3
  have c2:∀ o1 o2:Obj,((w.alloc o1).alloc o2).cell? ⟨ga,j,none⟩=some (.int .u8 C):=fun o1 o2=>by rw [grow_cell o2 (grow_lt o1 hga),grow_cell o1 hga]; exact cj
  clear hC hj hR hr hub hrow
  go_enter Tryd.func103,Tryd.ntmps103
  go_wp2_with fail
  go_region
  all_goals
   go_wp2_with fail
   refine bodyPost_ret (v:=bsV R B C) (by simp [results,Tryd.results103,go_sem]) rfl ⟨?_,?_⟩
   ·rw[HBT.out,HA.out.1,HA.out.2]
   ·exact (bal (bstart _ _) _).drew
 ·have HA:Hid (aheadB r unit i=0∧aheadB u unit i=0):=by
   unfold aheadB
   rw[if_neg hq,if_neg hq]
   exact⟨rfl,rfl⟩
  have dq:decide ((unit:Int)≤(i:Int))=false:=decide_eq_false (by omega)
  clear hr hub hrow
  go_enter Tryd.func103,Tryd.ntmps103
  go_wp2_with fail
  refine bodyPost_ret (v:=bsV 0 B 0) (by simp [results,Tryd.results103,go_sem]) rfl ⟨?_,?_⟩
  ·rw[HBT.out,HA.out.1,HA.out.2]
  ·exact bal (bstart _ _) _
end
end Go.Proofs.YtcbbcadfolgioaaDoor
