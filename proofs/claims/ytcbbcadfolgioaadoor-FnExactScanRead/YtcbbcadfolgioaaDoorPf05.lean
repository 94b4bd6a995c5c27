/-
  Texts of the proof, put together.
-/
import Derived.Test.YtcbbcadfolgioaaDoorPf04
import Derived.Laws.AppendOwnNone
import Derived.Deep.LoopGhost
namespace Go.Proofs.YtcbbcadfolgioaaDoor
namespace ScanMath
open Go.RowKit OutMath TakeMath RastMath FiltMath PassMath
def cntL (lace:Bool):Nat:=if lace then 7 else 1
def cwL (lace:Bool) (W H p:Nat):Nat:=if lace then pw W H p else W
def chL (lace:Bool) (W H p:Nat):Nat:=if lace then ph W H p else H
def fL (lace:Bool) (W H N:Nat) (f:Nat→Int) (p:Nat):Nat→Int:=if lace then passF W H N f p else f
theorem pw_pos {W H p:Nat} (h:1≤ph W H p):1≤pw W H p:=by
 unfold ph at h
 unfold pw
 split at h
 ·omega
 ·rename_i e
  rw[if_neg e]
  omega
section
variable {lace:Bool} {W H N D p:Nat}
theorem cwL_le (lace:Bool) (W H p:Nat):cwL lace W H p≤W:=by
 unfold cwL
 split
 ·exact pw_le W H p
 ·exact Nat.le_refl _
theorem chL_le (lace:Bool) (W H p:Nat):chL lace W H p≤H:=by
 unfold chL
 split
 ·exact ph_le W H p
 ·exact Nat.le_refl _
theorem cwL_pos (hW:1≤W) (h:1≤chL lace W H p):1≤cwL lace W H p:=by
 unfold cwL
 unfold chL at h
 split
 ·rename_i e
  rw[if_pos e] at h
  exact pw_pos h
 ·exact hW
theorem cntL_le (lace:Bool):cntL lace≤7:=by
 unfold cntL
 split <;> omega
def partR (lace:Bool) (W H:Nat) (c d:Int) (N:Nat) (f:Nat→Int) (p:Nat):Ras:=⟨(cwL lace W H p:Int),(chL lace W H p:Int),c,d,cwL lace W H p * chL lace W H p * N,fL lace W H N f p⟩
theorem partR_lace (W H:Nat) (c d:Int) (N:Nat) (f:Nat→Int):partR true W H c d N f=passR W H c d N f:=rfl
def scanN (lace:Bool) (W H N D:Nat):Nat:=offP (cwL lace W H) (chL lace W H) N D (cntL lace)
theorem rb_small {s D:Nat} (hs:s≤96) (hD:D≤16):rb s D≤200:=by
 have:=Nat.mul_le_mul hs hD
 unfold rb
 omega
theorem part_s (hW:W≤24) (hN:N≤4):cwL lace W H p * N≤96:=Nat.mul_le_mul (Nat.le_trans (cwL_le _ _ _ _) hW) hN
end
def readR (t:ByteArray) (lace:Bool) (W H:Nat) (c d:Int) (N D:Nat) (p:Nat):Ras:=⟨(cwL lace W H p:Int),(chL lace W H p:Int),c,d,cwL lace W H p * chL lace W H p * N,rsmp t (offP (cwL lace W H) (chL lace W H) N D p) (cwL lace W H p * N) D (unitN N D)⟩
def readAll (t:ByteArray) (lace:Bool) (W H:Nat) (c d:Int) (N D:Nat):Ras:=if lace then joinR (W:Int) (H:Int) (readR t true W H c d N D) else readR t false W H c d N D 0
def kindsR (t:ByteArray) (lace:Bool) (W H N D:Nat):Prop:=∀ p,p < cntL lace→∀ j,j < chL lace W H p→bts t (offP (cwL lace W H) (chL lace W H) N D p+j * (rb (cwL lace W H p * N) D+1))≤4
section
variable {lace:Bool} {W H N D:Nat} {c d:Int}
theorem read_from (t:ByteArray) (hW:1≤W∧W≤24) (hH:1≤H∧H≤24) (hN:chan c=(N:Int)) (hd:DepthR c d) (hD:d.toNat=D):FromR (W:Int) (H:Int) 7 (readR t true W H c d N D):=by
 have hN1:1≤N:=by have:=chan_pos hd; omega
 refine (from_fits (R:=readR t true W H c d N D) hW hH hN).2.mpr ⟨fun p _=>⟨rfl,rfl,rfl,rfl,rfl⟩,⟨by omega,by omega⟩,⟨by omega,by omega⟩,hd,?_,fun i hi=>?_⟩
 ·show ((W * H * N:Nat):Int)=(W:Int) * (H:Int) * chan c
  rw[hN]
  simp
 ·show 0≤rsmp t _ _ D _ _∧rsmp t _ _ D _ _ < p2 d.toNat
  rw[hD]
  exact rsmp_fit _ _ _ _ _ (idxM W H N i+1) _ (Nat.lt_succ_self _)
theorem read_ok (t:ByteArray) (hW:1≤W∧W≤24) (hH:1≤H∧H≤24) (hN:chan c=(N:Int)) (hd:DepthR c d) (hD:d.toNat=D):RasOk (readAll t lace W H c d N D):=by
 unfold readAll
 cases lace with
 | true=>exact (read_from t hW hH hN hd hD).2.1
 | false=>
  refine⟨⟨by show (1:Int)≤(W:Int); omega,by show (W:Int)≤24; omega⟩,⟨by show (1:Int)≤(H:Int); omega,by show (H:Int)≤24; omega⟩,hd,?_,fun i hi=>?_⟩
  ·show ((W * H * N:Nat):Int)=(W:Int) * (H:Int) * chan c
   rw[hN]
   simp
  ·show 0≤rsmp t _ _ D _ _∧rsmp t _ _ D _ _ < p2 d.toNat
   rw[hD]
   exact rsmp_fit _ _ _ _ _ (i+1) _ (Nat.lt_succ_self _)
end
end ScanMath
end Go.Proofs.YtcbbcadfolgioaaDoor

namespace Go.Proofs.YtcbbcadfolgioaaDoor
open Go.RowKit RastMath PassMath ScanMath
def scanB (W H c d:Int) (lace:Bool):Int:=if SideR W∧SideR H∧DepthR c d then (scanN lace W.toNat H.toNat (chan c).toNat d.toNat:Int) else 0
theorem scanB_in {W H N D:Nat} {c d:Int} {lace:Bool} (hW:1≤W∧W≤24) (hH:1≤H∧H≤24) (hd:DepthR c d) (hN:chan c=(N:Int)) (hD:d=(D:Int)):scanB (W:Int) (H:Int) c d lace=(scanN lace W H N D:Int):=by
 unfold scanB
 rw[if_pos ⟨⟨by omega,by omega⟩,⟨by omega,by omega⟩,hd⟩,hN,hD]
 rfl
def SizeOk (t:ByteArray) (W H c d:Int) (lace:Bool):Prop:=(SideR W∧SideR H∧DepthR c d)∧(t.size:Int)=scanB W H c d lace
def KindsOk (t:ByteArray) (W H c d:Int) (lace:Bool):Prop:=kindsR t lace W.toNat H.toNat (chan c).toNat d.toNat
def readV (t:ByteArray) (W H c d:Int) (lace:Bool):Ras:=readAll t lace W.toNat H.toNat c d (chan c).toNat d.toNat
def ScanBytesAnswer:Prop:=∀ (W H c d:Int) (lace:Bool) (w:World),(Lit.int .i64 W).wf=true→(Lit.int .i64 H).wf=true→(Lit.int .i64 c).wf=true→(Lit.int .i64 d).wf=true→GridG w→
 Calls Tryd.prog 17 #[.int .i64 W,.int .i64 H,.int .i64 c,.int .i64 d,.bool lace] w fun e w'=>e=.returned (.int .i64 (scanB W H c d lace))∧Below w.heap.size w w'
def ScanReadAnswer:Prop:=∀ (t:ByteArray) (W H c d:Int) (lace:Bool) (w:World),t.size≤1048576→(Lit.int .i64 W).wf=true→(Lit.int .i64 H).wf=true→(Lit.int .i64 c).wf=true→(Lit.int .i64 d).wf=true→GridG w→
 (SizeOk t W H c d lace→KindsOk t W H c d lace→Calls Tryd.prog 16 #[.string t,.int .i64 W,.int .i64 H,.int .i64 c,.int .i64 d,.bool lace] w fun e w'=>∃ a' c',e=.returned (.tuple #[rasA (readV t W H c d lace) a' c',.int .i64 0])∧SL w' w.heap.size a' (readV t W H c d lace).n c' (readV t W H c d lace).f∧Below w.heap.size w w')∧
 (SizeOk t W H c d lace→¬ KindsOk t W H c d lace→Calls Tryd.prog 16 #[.string t,.int .i64 W,.int .i64 H,.int .i64 c,.int .i64 d,.bool lace] w fun e w'=>∃ a' c',e=.returned (.tuple #[.agg #[.int .i64 0,.int .i64 0,.int .i64 0,.int .i64 0,.slice a' 0 c'],.int .i64 2])∧Below w.heap.size w w')∧
 (¬ SizeOk t W H c d lace→Calls Tryd.prog 16 #[.string t,.int .i64 W,.int .i64 H,.int .i64 c,.int .i64 d,.bool lace] w fun e w'=>∃ a' c',e=.returned (.tuple #[.agg #[.int .i64 0,.int .i64 0,.int .i64 0,.int .i64 0,.slice a' 0 c'],.int .i64 1])∧Below w.heap.size w w')
end Go.Proofs.YtcbbcadfolgioaaDoor

namespace Go.Proofs.YtcbbcadfolgioaaDoor
open Go.RowKit
theorem in_yes (x a b:Int) (w:World) (h1:a≤x) (h2:x≤b):
  Calls Tryd.prog 62 #[.int .i64 x,.int .i64 a,.int .i64 b] w fun e w'=>e=.returned (.bool true)∧w'=w:=by
 go_enter Tryd.func62,Tryd.ntmps62
 go_wp2
 go_ret
 exact⟨rfl,rfl⟩
theorem in_no (x a b:Int) (w:World) (h:¬ (a≤x∧x≤b)):
  Calls Tryd.prog 62 #[.int .i64 x,.int .i64 a,.int .i64 b] w fun e w'=>e=.returned (.bool false)∧w'=w:=by
 by_cases h1:a≤x
 ·have h2:¬ x≤b:=fun k=>h ⟨h1,k⟩
  clear h
  go_enter Tryd.func62,Tryd.ntmps62
  go_wp2
  go_ret
  exact⟨rfl,rfl⟩
 ·clear h
  go_enter Tryd.func62,Tryd.ntmps62
  go_wp2
  go_ret
  exact⟨rfl,rfl⟩
end Go.Proofs.YtcbbcadfolgioaaDoor

namespace Go.Proofs.YtcbbcadfolgioaaDoor.RunsMath
def sameN (f:Nat→Int) (n:Nat) (x:Int):Nat→Nat→Nat
 | 0,_=>0
 | m+1,i=>if i < n∧f i=x then 1+sameN f n x m (i+1) else 0
def zerosAt (f:Nat→Int) (n i:Nat):Nat:=sameN f n 0 138 i
def sameAt (f:Nat→Int) (n i:Nat):Nat:=if i=0 then 0 else sameN f n (f (i - 1)) 6 i
def runAt (f:Nat→Int) (n i:Nat):(Int×Int)×Nat:=
 if 11≤zerosAt f n i then ((18,(zerosAt f n i:Int) - 11),zerosAt f n i)
 else if 3≤zerosAt f n i then ((17,(zerosAt f n i:Int) - 3),zerosAt f n i)
 else if 3≤sameAt f n i then ((16,(sameAt f n i:Int) - 3),sameAt f n i)
 else ((f i,0),1)
def rest (f:Nat→Int) (n:Nat) (i:Nat):List (Int×Int):=
 if i < n then (runAt f n i).1 :: rest f n (i+max 1 (runAt f n i).2) else []
termination_by n - i
decreasing_by omega
/-! The way back. -/
def tell (out:List Int) (r:Int×Int):Option (List Int):=
 if r.1=16 then (if 0≤r.2∧r.2≤3∧0 < out.length then some (List.replicate (3+r.2).toNat (out.getD (out.length - 1) 0)) else none)
 else if r.1=17 then (if 0≤r.2∧r.2≤7 then some (List.replicate (3+r.2).toNat 0) else none)
 else if r.1=18 then (if 0≤r.2∧r.2≤127 then some (List.replicate (11+r.2).toNat 0) else none)
 else if 0≤r.1∧r.1≤15∧r.2=0 then some [r.1] else none
def back (z:Nat) (out:List Int):List (Int×Int)→Option (List Int)
 | []=>if out.length=z then some out else none
 | r :: R=>match tell out r with
  | none=>none
  | some more=>if out.length+more.length≤z then back z (out ++ more) R else none
end Go.Proofs.YtcbbcadfolgioaaDoor.RunsMath

namespace Go.Proofs.YtcbbcadfolgioaaDoor
open Go.RowKit Go.Joins RunsMath
theorem info_int:(Tryd.prog.info? 3).map (fun i=>(i.zero,i.size,i.bytes))=some (some (.int .i64 0),1,8):=by kernel_rfl
def ivals (l:List Int):List Value:=l.map fun x=>Value.int .i64 x
theorem ivals_length (l:List Int):(ivals l).length=l.length:=by simp [ivals]
theorem ivals_app (xs ys:List Int):ivals (xs ++ ys)=ivals xs ++ ivals ys:=by simp [ivals]
theorem ivals_get (l:List Int) (i:Nat) (h:i < l.length):(ivals l)[i]?=some (.int .i64 (l.getD i 0)):=by
 unfold ivals
 rw[List.getElem?_map,List.getElem?_eq_getElem h,List.getD_eq_getElem?_getD,List.getElem?_eq_getElem h]
 rfl
theorem ivals_one (l:List Int):∀ u∈ivals l,u.oneCell'=true:=by
 intro u hu
 obtain⟨x,_,rfl⟩:=List.mem_map.mp hu
 rfl
def NumRow (w:World) (S:Nat) (v:Value) (l:List Int):Prop:=w.ownsRow S 3 1 v l.length (ivals l)
theorem NumRow.empty (w:World) (S:Nat) (h:S≤w.heap.size):NumRow (w.alloc (.cells #[] 3)) S (.slice (some ⟨w.heap.size,0,none⟩) 0 0) []:=
 ⟨rfl,.inr ⟨w.heap.size,0,#[],rfl,h,heap_alloc_new w _,Nat.le_refl _,Nat.zero_le _,rfl,rfl⟩⟩
theorem NumRow.form {w:World} {S:Nat} {v:Value} {l:List Int} (h:NumRow w S v l):∃ a c,v=.slice a l.length c∧(a=none→c=0)∧l.length≤c∧Came w a l.length (fun i=>l.getD i 0)∧∀ ad,a=some ad→∀ j u,(ivals l)[j]?=some u→w.cell? (ad.add j)=some u:=by
 rcases h.2 with ⟨rfl,h0⟩ | ⟨g,cap,cur,rfl,hb,hg,hc,hm,hs,ht⟩
 ·exact⟨none,0,by rw [h0],fun _=>rfl,by omega,.inl h0,fun ad e=>by cases e⟩
 ·refine⟨_,cap,rfl,(fun e=>by cases e),hc,.inr ⟨g,0,rfl,block_lt hg,fun j hj=>?_⟩,fun ad e j u hu=>?_⟩
  ·rw[Nat.zero_add,h.cellAt j (by omega)]
   exact ivals_get l j hj
  ·cases e
   have hj:j < l.length:=by
    rcases Nat.lt_or_ge j l.length with k | k
    ·exact k
    ·rw[List.getElem?_eq_none (by rw [ivals_length]; exact k)] at hu; cases hu
   rw[Addr.add_lit,Nat.zero_add,h.cellAt j (by omega)]
   exact hu
theorem NumRow.called {w w':World} {S:Nat} {v:Value} {l:List Int} (h:NumRow w S v l) (hb:Below w.heap.size w w'):NumRow w' S v l:=by
 refine⟨h.1,?_⟩
 rcases h.2 with h | ⟨g,cap,cur,rfl,h1,h2,h3⟩
 ·exact .inl h
 ·exact .inr ⟨g,cap,cur,rfl,h1,(hb.block g (block_lt h2)).trans h2,h3⟩
end Go.Proofs.YtcbbcadfolgioaaDoor

namespace Go.Proofs.YtcbbcadfolgioaaDoor
open Go.RowKit Go.Joins RastMath
theorem beq_no {a b:Int} (h:¬ a=b):(a == b)=false:=by simpa using h
theorem specChannels (c:Int) (w:World):Calls Tryd.prog 58 #[.int .i64 c] w fun e w'=>e=.returned (.int .i64 (chan c))∧w'=w:=by
 unfold chan
 by_cases h0:c=0
 ·subst h0
  go_enter Tryd.func58,Tryd.ntmps58
  go_wp2_with fail
  go_ret
  exact⟨rfl,rfl⟩
 by_cases h3:c=3
 ·subst h3
  go_enter Tryd.func58,Tryd.ntmps58
  go_wp2_with fail
  go_ret
  exact⟨rfl,rfl⟩
 by_cases h2:c=2
 ·subst h2
  go_enter Tryd.func58,Tryd.ntmps58
  go_wp2_with fail
  go_ret
  exact⟨rfl,rfl⟩
 by_cases h4:c=4
 ·subst h4
  go_enter Tryd.func58,Tryd.ntmps58
  go_wp2_with fail
  go_ret
  exact⟨rfl,rfl⟩
 by_cases h6:c=6
 ·subst h6
  go_enter Tryd.func58,Tryd.ntmps58
  go_wp2_with fail
  go_ret
  exact⟨rfl,rfl⟩
 rw[if_neg (by omega),if_neg h2,if_neg h4,if_neg h6]
 have b0:=beq_no h0
 have b3:=beq_no h3
 have b2:=beq_no h2
 have b4:=beq_no h4
 have b6:=beq_no h6
 go_enter Tryd.func58,Tryd.ntmps58
 go_wp2_with fail
 go_ret
 exact⟨rfl,rfl⟩
set_option maxHeartbeats 1600000 in
theorem specDepthOk (c d:Int) (w:World):Calls Tryd.prog 57 #[.int .i64 c,.int .i64 d] w fun e w'=>e=.returned (.bool (decide (DepthR c d)))∧w'=w:=by
 have hd:d=1∨d=2∨d=4∨d=8∨d=16∨¬ Five d:=by
  unfold Five
  omega
 have hc:c=0∨c=3∨c=2∨c=4∨c=6∨(¬ c=0∧¬ c=3∧¬ c=2∧¬ c=4∧¬ c=6):=by omega
 rcases hc with rfl | rfl | rfl | rfl | rfl | ⟨h0,h3,h2,h4,h6⟩
 all_goals
  rcases hd with rfl | rfl | rfl | rfl | rfl | hd
 all_goals
  first
   | (rw [decide_eq_true (show DepthR _ _ by unfold DepthR Five; omega)])
   | (rw [decide_eq_false (show ¬ DepthR _ _ by unfold DepthR Five; omega)])
   | (rw [decide_eq_false (show ¬ DepthR _ _ from fun h=>hd (depth_five h))])
  try (have e0:=beq_no h0; have e3:=beq_no h3; have e2:=beq_no h2; have e4:=beq_no h4; have e6:=beq_no h6; clear h0 h3 h2 h4 h6)
  try (unfold Five at hd; have g1:=beq_no (a:=d) (b:=1) (by omega); have g2:=beq_no (a:=d) (b:=2) (by omega); have g4:=beq_no (a:=d) (b:=4) (by omega); have g8:=beq_no (a:=d) (b:=8) (by omega); have g16:=beq_no (a:=d) (b:=16) (by omega); clear hd)
  go_enter Tryd.func57,Tryd.ntmps57
  go_wp2_with fail
  go_ret
  exact⟨rfl,rfl⟩
theorem specSide (n:Int) (w:World):Calls Tryd.prog 56 #[.int .i64 n] w fun e w'=>e=.returned (.bool (decide (SideR n)))∧w'=w:=by
 by_cases h:SideR n
 ·rw[decide_eq_true h]
  go_enter Tryd.func56,Tryd.ntmps56
  go_wp2_with fail
  refine (in_yes n 1 24 _ h.1 h.2).mono ?_
  rintro e w1 ⟨rfl,rfl⟩
  go_wp2_with fail
  go_ret
  exact⟨rfl,rfl⟩
 ·rw[decide_eq_false h]
  go_enter Tryd.func56,Tryd.ntmps56
  go_wp2_with fail
  refine (in_no n 1 24 _ h).mono ?_
  rintro e w1 ⟨rfl,rfl⟩
  go_wp2_with fail
  go_ret
  exact⟨rfl,rfl⟩
theorem specDepth5 (d:Int) (w:World):Calls Tryd.prog 97 #[.int .i64 d] w fun e w'=>e=.returned (.bool (decide (Five d)))∧w'=w:=by
 have hh:decide (DepthR 0 d)=decide (Five d):=by
  rw[decide_eq_decide]
  exact⟨depth_five,fun h=>.inl ⟨rfl,h⟩⟩
 have h:=specDepthOk 0 d
 rw[hh] at h
 generalize decide (Five d)=b at h ⊢
 go_enter Tryd.func97,Tryd.ntmps97
 go_wp2_with fail
 refine (h _).mono ?_
 rintro e w1 ⟨rfl,rfl⟩
 go_wp2_with fail
 go_ret
 exact⟨rfl,rfl⟩
set_option maxHeartbeats 800000 in
theorem specRowBytes (x c d:Int) (w:World):Calls Tryd.prog 67 #[.int .i64 x,.int .i64 c,.int .i64 d] w fun e w'=>e=.returned (.int .i64 (rowB x c d))∧w'=w:=by
 unfold rowB
 by_cases hx:SideR x
 ·have hs:=specSide x
  rw[decide_eq_true hx] at hs
  by_cases hd:DepthR c d
  ·have hk:=specDepthOk c d
   rw[decide_eq_true hd] at hk
   rw[if_pos ⟨hx,hd⟩]
   have hc:=chan_range c
   have h5:=five_range (depth_five hd)
   have hch:=specChannels c
   obtain⟨x0,x1⟩:=hx
   generalize chan c=n at hc hch ⊢
   have m1:0≤x * n∧x * n≤96:=⟨Int.mul_nonneg (by omega) hc.1,by
    have:=Int.mul_le_mul x1 hc.2 hc.1 (by omega)
    omega⟩
   have m2:0≤x * n * d∧x * n * d≤1536:=⟨Int.mul_nonneg m1.1 (by omega),by
    have:=Int.mul_le_mul m1.2 h5.2 (by omega) (by omega)
    omega⟩
   go_enter Tryd.func67,Tryd.ntmps67
   go_wp2_with fail
   refine (hs _).mono ?_
   rintro e w1 ⟨rfl,rfl⟩
   go_wp2_with fail
   refine (hk _).mono ?_
   rintro e w1 ⟨rfl,rfl⟩
   go_wp2_with fail
   refine (hch _).mono ?_
   rintro e w1 ⟨rfl,rfl⟩
   go_wp2_with fail
   go_ret
   exact⟨rfl,rfl⟩
  ·have hk:=specDepthOk c d
   rw[decide_eq_false hd] at hk
   rw[if_neg (fun h=>hd h.2)]
   go_enter Tryd.func67,Tryd.ntmps67
   go_wp2_with fail
   refine (hs _).mono ?_
   rintro e w1 ⟨rfl,rfl⟩
   go_wp2_with fail
   refine (hk _).mono ?_
   rintro e w1 ⟨rfl,rfl⟩
   go_wp2_with fail
   go_ret
   exact⟨rfl,rfl⟩
 ·have hs:=specSide x
  rw[decide_eq_false hx] at hs
  rw[if_neg (fun h=>hx h.1)]
  go_enter Tryd.func67,Tryd.ntmps67
  go_wp2_with fail
  refine (hs _).mono ?_
  rintro e w1 ⟨rfl,rfl⟩
  go_wp2_with fail
  go_ret
  exact⟨rfl,rfl⟩
end Go.Proofs.YtcbbcadfolgioaaDoor

namespace Go.Proofs.YtcbbcadfolgioaaDoor
open Go.RowKit
theorem ret_i {k:IntKind} {a b:Int} (h:a=b):Ending.returned (.int k a)=.returned (.int k b):=by rw [h]
end Go.Proofs.YtcbbcadfolgioaaDoor

namespace Go.Proofs.YtcbbcadfolgioaaDoor
open Go.RowKit Go.Joins OutMath
set_option maxHeartbeats 400000 in
theorem pow_any (n:Nat) (w:World) (h:n≤61):
  Calls Tryd.prog 75 #[.int .i64 n] w fun e w'=>e=.returned (.int .i64 (p2 n))∧w'=w:=by
 go_enter Tryd.func75,Tryd.ntmps75
 go_wp2
 go_loop [3,4] (fun x i=>∃ j:Nat,j≤n∧i=.int .i64 j∧x=.int .i64 (p2 j)) (fun _ i=>n - (intOf i).toNat)
 case atStart=>exact⟨0,Nat.zero_le _,rfl,by rw [p2_zero]⟩
 case round=>
  obtain⟨j,hj,rfl,rfl⟩:=hrel
  have hp:=p2_pos j
  have hq:=p2_61 (n:=j) (by omega)
  by_cases hlt:j < n
  ·go_wp2
   go_round
   case rel=>exact⟨j+1,by omega,by go_num,by rw [p2_succ]⟩
   case measure=>simp [intOf]; omega
  ·go_wp2
   go_ret
   exact⟨ret_i (by rw [show j=n by omega]),rfl⟩
end Go.Proofs.YtcbbcadfolgioaaDoor

namespace Go.Proofs.YtcbbcadfolgioaaDoor
open Go.RowKit Go.Joins
theorem nums_append1 {w:World} {S:Nat} {v:Value} {xs:List Int} {ops:Array Oper} {rest:List Oper} {o:Oper} {a:Act} {Q:Exit→Act→World→Prop} (hgd:o.guard=none) (s x:Operand)
  (ho:o.op=.call { callee:=.builtin .append,args:=#[s,x],argTypes:=#[24,24] }) (hs:a.eval s=v) (h:NumRow w S v xs) (g c:Nat) (y:Int) (hx:a.eval x=.slice (some ⟨g,0,none⟩) 1 c) (hy:w.cell? ⟨g,0,none⟩=some (.int .i64 y))
  (h63:xs.length≤100000) (hS:S≤w.heap.size)
  (hK:∀ v' w',NumRow w' S v' (xs ++ [y])→w.grownBy w' v.ownBlock→(v'.ownBlock=v.ownBlock∨v'.ownBlock=some w.heap.size)→wpList Tryd.prog ops Q rest (a.put o.dst v') w'):wpList Tryd.prog ops Q (o :: rest) a w:=by
 obtain⟨i0,hi0,hz0,hz1,hz2⟩:=info_parts info_int
 refine wpList_append_own_at w hgd s x _ ho S 3 i0 _ 1 8 Tryd.underlying24 hi0 hz0 hz1 hz2 rfl (by omega) v _ _ hs h ⟨g,0,none⟩ 1 c (ivals [y]) hx rfl (fun j u hu=>?_) (ivals_one _) (by unfold maxLen; omega) (by omega) hS ?_
 ·cases j with
  | zero=>
   simp[ivals] at hu
   rw[← hu]
   exact hy
  | succ j=>simp [ivals] at hu
 ·intro v' w' hown hg _ hk
  refine hK v' w' ?_ hg hk
  show w'.ownsRow S 3 1 v' (xs ++ [y]).length (ivals (xs ++ [y]))
  rw[List.length_append,ivals_app]
  exact hown
end Go.Proofs.YtcbbcadfolgioaaDoor
