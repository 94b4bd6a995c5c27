/-
  Texts of the proof, put together.
-/
import Derived.Test.YtklpiihnbokkkaaGreatDoorFk24
import Derived.Laws.CopyOwn
import Derived.Lib.AppendZeros
namespace Go.Proofs.YtklpiihnbokkkaaGreatDoor
open Go.RowKit Go.Joins InfMath
theorem u64_and_nat (a b:Nat) (ha:a < 18446744073709551616) (hb:b < 18446744073709551616):bits .and .u64 (a:Int) (b:Int)=((a &&& b:Nat):Int):=by
 have h1:(BitVec.ofInt 64 (a:Int)).toNat=a:=by
  rw[BitVec.ofInt_natCast,BitVec.toNat_ofNat]; exact Nat.mod_eq_of_lt (by omega)
 have h2:(BitVec.ofInt 64 (b:Int)).toNat=b:=by
  rw[BitVec.ofInt_natCast,BitVec.toNat_ofNat]; exact Nat.mod_eq_of_lt (by omega)
 have hx:a &&& b≤a:=Nat.and_le_left
 show IntKind.u64.wrap ((BitVec.ofInt 64 (a:Int) &&& BitVec.ofInt 64 (b:Int)).toNat:Int)=_
 rw[BitVec.toNat_and,h1,h2,IntKind.wrap_u64]
 omega
theorem low32 (a:Nat) (h:a < 4294967296):bits .and .u64 (a:Int) 4294967295=(a:Int):=by
 have:=u64_and_nat a 4294967295 (by omega) (by omega)
 rw[show (4294967295:Nat)=2 ^ 32 - 1 from rfl,Nat.and_two_pow_sub_one_eq_mod,Nat.mod_eq_of_lt (by omega)] at this
 exact this
set_option maxHeartbeats 800000 in
theorem mul64_one (y:Nat) (w:World) (h:y≤100000):
  Calls Tryz.prog 191 #[.int .u64 1,.int .u64 (y:Int)] w fun e w'=>e=.returned (.tuple #[.int .u64 0,.int .u64 (y:Int)])∧w'=w:=by
 have e1:bits .and .u64 (1:Int) 4294967295=1:=low32 1 (by omega)
 have e0:bits .and .u64 (0:Int) 4294967295=0:=low32 0 (by omega)
 have e2:=low32 y (by omega)
 have s1:(y:Int) / 4294967296=0:=by omega
 go_enter Tryz.func191,Tryz.ntmps191
 go_wp2_with fail
 go_ret2
 exact⟨rfl,rfl⟩
set_option maxHeartbeats 800000 in
theorem mul_one (y:Nat) (w:World) (h:y≤100000):
  Calls Tryz.prog 162 #[.int .u64 1,.int .u64 (y:Int)] w fun e w'=>e=.returned (.tuple #[.int .u64 0,.int .u64 (y:Int)])∧w'=w:=by
 have hm:=mul64_one y w h
 go_enter Tryz.func162,Tryz.ntmps162
 go_wp2_with fail
 refine hm.mono ?_
 rintro e w1 ⟨rfl,rfl⟩
 go_wp2_with fail
 go_ret2
 exact⟨rfl,rfl⟩
theorem step_copy_row {ops:Array Oper} {o:Oper} {a:Act} {w:World} {K:Act→World→Prop} {Q:Exit→Act→World→Prop} {E:Prop} (hgd:o.guard=none) (d s:Operand) (dT sT elem:TypeId)
  (ho:o.op=.call { callee:=.builtin .copy,args:=#[d,s],argTypes:=#[dT,sT] }) (hu:Tryz.prog.underlying dT=some (.slice elem)) (hsz:(Tryz.prog.info? elem).map (·.size)=some 1)
  (g off dLen dCap:Nat) (ad:Addr) (sLen sCap:Nat) (hd:a.eval d=.slice (some ⟨g,off,none⟩) dLen dCap) (hs:a.eval s=.slice (some ad) sLen sCap)
  (cur:Array Value) (t:TypeId) (hg:w.heap[g]?=some (.cells cur t (0,0))) (cs:List Value) (hn:cs.length=Nat.min sLen dLen)
  (hsrc:∀ j v,cs[j]?=some v→w.cell? (ad.add j)=some v) (hfit:off+cs.length≤cur.size) (h1:∀ v∈cs,v.oneCell'=true)
  (h:K (a.put o.dst (goInt cs.length)) (w.setRow g (cur.toList.take off ++ cs ++ cur.toList.drop (off+cs.length)).toArray)):
  if Region.wanted o (yielded ops a.tmps)=true then Oper.wp Tryz.prog o a w K Q else E:=by
 have hw:Region.wanted o (yielded ops a.tmps)=true:=by simp [Region.wanted,hgd]
 rw[if_pos hw]
 have hrun:=run_copy_row (P:=Tryz.prog) w dT sT o.type elem g off dLen dCap ad sLen sCap cur t cs hu hsz hg hn hsrc hfit h1
 unfold Oper.wp
 simp[execOp,ho,resolve,invoke,builtin,hd,hs,hrun,Result.andThen]
 rw[List.append_assoc] at h
 exact h
def rep (k n:Nat) (y:Int):Array Value:=(List.replicate n (Value.int .i64 y) ++ List.replicate (k - n) (Value.int .i64 0)).toArray
theorem rep_size {k n:Nat} (y:Int) (h:n≤k):(rep k n y).size=k:=by
 unfold rep
 simp
 omega
theorem rep_made (k:Nat) (y:Int):madeCells #[Value.int .i64 0] k=rep k 0 y:=by
 unfold rep
 apply Array.toList_inj.1
 rw[made_ints]
 simp
 unfold fints
 rw[List.map_const',List.length_range]
theorem rep_more {k n m:Nat} (y:Int) (h:n+m≤k):((rep k n y).toList.take n ++ List.replicate m (Value.int .i64 y) ++ (rep k n y).toList.drop (n+m)).toArray=rep k (n+m) y:=by
 unfold rep
 simp only [List.take_append_of_le_length,List.length_replicate,Nat.le_refl,List.drop_append,List.drop_replicate]
 rw[List.take_of_length_le (by simp),show n - (n+m)=0 by omega,List.replicate_zero,List.nil_append,← List.replicate_append_replicate]
 rw[show k - n - (n+m - n)=k - (n+m) by omega]
def RpS (w w':World) (g k n:Nat) (y:Int):Prop:=w'.heap[g]?=some (.cells (rep k n y) 3 (0,0))∧Below w.heap.size w w'∧w.heap.size≤g∧n≤k
theorem RpS.copied {w w':World} {g k n m:Nat} {y:Int} (h:RpS w w' g k n y) (hm:n+m≤k):RpS w (w'.setRow g ((rep k n y).toList.take n ++ List.replicate m (Value.int .i64 y) ++ (rep k n y).toList.drop (n+m)).toArray) g k (n+m) y:=by
 obtain⟨h1,h2,h3,h4⟩:=h
 refine⟨?_,below_setRow h2 h3 _,h3,hm⟩
 rw[setRow_heap w' g _ _ _ _ h1,rep_more y hm]
theorem RpS.row {w w':World} {g k:Nat} {y:Int} (h:RpS w w' g k k y) (hk:k≤maxLen):NumRow w' w.heap.size (.slice (some ⟨g,0,none⟩) k k) (List.replicate k y):=by
 obtain⟨h1,h2,h3,h4⟩:=h
 refine⟨by simp [ivals],.inr ⟨g,k,rep k k y,by simp,h3,h1,by simp,hk,by rw [rep_size y (Nat.le_refl _)]; omega,?_⟩⟩
 unfold rep
 simp[ivals]
theorem rep_cell {w':World} {g k n:Nat} {y:Int} (h:w'.heap[g]?=some (.cells (rep k n y) 3 (0,0))) {m:Nat} (hm:m≤n):∀ j v,(List.replicate m (Value.int .i64 y))[j]?=some v→w'.cell? ((⟨g,0,none⟩:Addr).add j)=some v:=by
 intro j v hv
 have hj:j < m:=by
  rcases Nat.lt_or_ge j m with q | q
  ·exact q
  ·rw[List.getElem?_eq_none (by simpa using q)] at hv
   cases hv
 rw[List.getElem?_replicate,if_pos hj] at hv
 rw[Addr.add_lit,Nat.zero_add,cell_of_block h j]
 unfold rep
 rw[List.getElem?_toArray,List.getElem?_append_left (by simp; omega),List.getElem?_replicate,if_pos (by omega)]
 exact hv
set_option maxRecDepth 100000 in
set_option maxHeartbeats 1600000 in
theorem repeat_one (b c k:Nat) (y:Int) (w:World) (hb:w.cell? ⟨b,0,none⟩=some (.int .i64 y)) (hbl:b < w.heap.size) (hk1:1≤k) (hk:k≤1000):
  Calls Tryz.prog 124 #[.slice (some ⟨b,0,none⟩) 1 c,.int .i64 (k:Int)] w fun e w'=>∃ g,e=.returned (.slice (some ⟨g,0,none⟩) k k)∧NumRow w' w.heap.size (.slice (some ⟨g,0,none⟩) k k) (List.replicate k y)∧Below w.heap.size w w':=by
 have hm:=mul_one k w (by omega)
 have hmk:=make_ints w k (by omega)
 have d1:decide ((k:Int) < 0)=false:=decide_eq_false (by omega)
 have d2:decide ((9223372036854775807:Int) < (k:Int))=false:=decide_eq_false (by omega)
 have hsz:(Tryz.prog.info? 3).map (·.size)=some 1:=by kernel_rfl
 have H0:Hid (RpS w (w.alloc (.cells (madeCells #[Value.int .i64 0] k) 3)) w.heap.size k 0 y):=⟨by rw [rep_made k y]; exact heap_alloc_new w _,bstart _ _,Nat.le_refl _,Nat.zero_le _⟩
 have hb1:(w.alloc (.cells (madeCells #[Value.int .i64 0] k) 3)).cell? ⟨b,0,none⟩=some (.int .i64 y):=(grow_cell _ hbl 0).trans hb
 generalize w.alloc (.cells (madeCells #[Value.int .i64 0] k) 3)=W at *
 go_enter Tryz.func124,Tryz.ntmps124
 go_wp2_with fail
 refine hm.mono ?_
 clear hm
 rintro e w1 ⟨rfl,rfl⟩
 have H1:Hid (RpS w1 (W.setRow w1.heap.size ((rep k 0 y).toList.take 0 ++ List.replicate 1 (Value.int .i64 y) ++ (rep k 0 y).toList.drop (0+1)).toArray) w1.heap.size k (0+1) y):=H0.out.copied (by omega)
 have hsrc:∀ j v,[Value.int .i64 y][j]?=some v→W.cell? ((⟨b,0,none⟩:Addr).add j)=some v:=fun j v hv=>by
  cases j with
  | zero=>
   simp at hv
   rw[← hv]
   exact hb1
  | succ j=>simp at hv
 have hcp:=run_copy_row (P:=Tryz.prog) W 25 25 3 3 w1.heap.size 0 k k ⟨b,0,none⟩ 1 c (rep k 0 y) 3 [.int .i64 y] Tryz.underlying25 hsz H0.out.1 (show Nat.min 1 k=1 from Nat.min_eq_left hk1).symm hsrc (by rw [rep_size y (Nat.zero_le _)]; exact hk1) (fun v hv=>by rw [List.mem_singleton.1 hv]; rfl)
 have H1':Hid (RpS w1 (W.setRow w1.heap.size ((rep k 0 y).toList.take 0 ++ [Value.int .i64 y] ++ (rep k 0 y).toList.drop (0+[Value.int .i64 y].length)).toArray) w1.heap.size k 1 y):=H1.out
 generalize W.setRow w1.heap.size ((rep k 0 y).toList.take 0 ++ [Value.int .i64 y] ++ (rep k 0 y).toList.drop (0+[Value.int .i64 y].length)).toArray=W2 at hcp H1'
 have hcp1:(Builtin.copy_ #[25,25] 3 #[.slice (some ⟨w1.heap.size,0,none⟩) k k,.slice (some ⟨b,0,none⟩) 1 c]).run Tryz.prog W=.ok (.int .i64 1) W2:=hcp
 clear hcp H1 hsrc
 go_wp2_with fail
 generalize hg:w1.heap.size=g at *
 clear H0 hb1 hb hmk hcp1
 go_loopg [8] (k+1) (fun gk v w'=>∃ n:Nat,1≤n∧n≤k∧v=.int .i64 (n:Int)∧k - n≤gk∧Hid (RpS w1 w' g k n y))
 case atStart=>exact⟨1,by omega,by omega,rfl,by omega,H1'⟩
 case round=>
  clear H1'
  obtain⟨n,hn1,hnk,rfl,hgk,hR⟩:=hrel
  by_cases hlt:n < k
  ·have dl:decide ((n:Int) < (k:Int))=true:=decide_eq_true (by omega)
   have dl2:decide (n < k)=true:=decide_eq_true hlt
   obtain⟨m,hm⟩:∃ m,m=Nat.min n (k - n):=⟨_,rfl⟩
   have hm1:m≤n:=by rw [hm]; exact Nat.min_le_left _ _
   have hm2:m≤k - n:=by rw [hm]; exact Nat.min_le_right _ _
   have hm3:1≤m:=by
    rw[hm]
    exact Nat.le_min.2 ⟨hn1,by omega⟩
   have hblk:=hR.out.1
   have HBK:=hid_of hblk
   have HM:=hid_of hm
   have HNX:Hid (RpS w1 ((wr.drewN 1).setRow g ((rep k n y).toList.take n ++ List.replicate m (Value.int .i64 y) ++ (rep k n y).toList.drop (n+m)).toArray) g k (n+m) y):=RpS.copied (w':=wr.drewN 1) ⟨hR.out.1,⟨hR.out.2.1.os,hR.out.2.1.tape,hR.out.2.1.output,hR.out.2.1.size,hR.out.2.1.block⟩,hR.out.2.2⟩ (by omega)
   have x1:(0:Int)≤(n:Int):=by omega
   have x2:(n:Int)≤(k:Int):=by omega
   have hkn:¬ k=n:=by omega
   have hsrc:∀ j v,(List.replicate m (Value.int .i64 y))[j]?=some v→(wr.drewN 1).cell? ((⟨g,0,none⟩:Addr).add j)=some v:=rep_cell (w':=wr.drewN 1) HBK.out hm1
   have HSRC:=hid_of hsrc
   clear hR hblk hm hsrc
   go_wp2_with fail
   go_region_law (refine step_copy_row rfl (.tmp 41) (.tmp 44) 25 25 3 rfl Tryz.underlying25 hsz g n (k - n) (k - n) ⟨g,0,none⟩ n k (by simp [Act.eval,Act.put]) (by simp [Act.eval,Act.put]) (rep k n y) 3 (by exact HBK.out) (List.replicate m (Value.int .i64 y)) (by rw [List.length_replicate]; exact HM.out) (by exact HSRC.out) (by rw [List.length_replicate,rep_size y hnk]; omega) (fun v hv=>by rw [List.eq_of_mem_replicate hv]; rfl) ?_)
   all_goals
    have hwr:IntKind.i64.wrap ((n:Int)+(m:Int))=((n+m:Nat):Int):=by
     rw[IntKind.wrap_i64]
     omega
    rw[← List.append_assoc,hwr]
    have HN:Hid (RpS w1 (wr.drew.setRow g ((rep k n y).toList.take n ++ List.replicate m (Value.int .i64 y) ++ (rep k n y).toList.drop (n+m)).toArray) g k (n+m) y):=HNX.out
    generalize wr.drew.setRow g _=W3 at HN ⊢
    clear HNX HBK HSRC HM hwr
    go_wp2_with fail
    go_roundg (k - (n+m))
    case measure=>omega
    case rel=>exact⟨n+m,by omega,by omega,by go_num,Nat.le_refl _,HN⟩
  ·obtain rfl:n=k:=by omega
   have dl:decide ((n:Int) < (n:Int))=false:=decide_eq_false (by omega)
   have HE:Hid (NumRow wr w1.heap.size (.slice (some ⟨g,0,none⟩) n n) (List.replicate n y)∧Below w1.heap.size w1 wr):=⟨hR.out.row (by unfold maxLen; omega),hR.out.2.1⟩
   clear hR
   go_wp2_with fail
   go_ret
   exact⟨g,rfl,HE.out⟩
theorem wpList_by_run {w w':World} {v x y:Value} {ops:Array Oper} {rest:List Oper} {o:Oper} {a:Act} {Q:Exit→Act→World→Prop} (hgd:o.guard=none) (d s:Operand) (dT sT:TypeId)
  (ho:o.op=.call { callee:=.builtin .append,args:=#[d,s],argTypes:=#[dT,sT] }) (hd:a.eval d=x) (hs:a.eval s=y) (hrun:(Builtin.append_ #[dT,sT] o.type #[x,y]).run Tryz.prog w=.ok v w')
  (h:wpList Tryz.prog ops Q rest (a.put o.dst v) w'):wpList Tryz.prog ops Q (o :: rest) a w:=by
 refine wpList_plain hgd fun K hK=>?_
 unfold Oper.wp
 simp only [execOp,ho,resolve,invoke,builtin,Sem.run_bind,Sem.run_pure,Result.andThen_ok,List.map_toArray,List.map_cons,List.map_nil,hd,hs,hrun]
 exact hK _ _ h
set_option maxRecDepth 100000 in
set_option maxHeartbeats 1600000 in
theorem grow_nil (n:Nat) (w:World) (h1:1≤n) (h2:n≤1000):
  Calls Tryz.prog 161 #[.slice none 0 0,.int .i64 (n:Int)] w fun e w'=>∃ g c,e=.returned (.slice (some ⟨g,0,none⟩) 0 c)∧NumRow w' w.heap.size (.slice (some ⟨g,0,none⟩) 0 c) []∧Below w.heap.size w w':=by
 obtain⟨i0,hi0,hz0,hz1,hz2⟩:=info_parts info_int
 have hap:=Lib.run_append_nil_zeros (P:=Tryz.prog) w 25 3 25 3 i0 (.int .i64 0) .i64 .i64 Tryz.underlying25 Tryz.underlying3 hi0 hz0 n (by omega) (by omega) (by omega) (by rw [hz2]; omega)
 have hge:=grownCap_ge w n 0 3
 have hle:=grownCap_le_maxLen w n 0 3 (by unfold maxLen; omega)
 have HO:Hid (NumRow (w.drew.alloc (.cells (Builtin.zeroCells (Value.int .i64 0).cells n ++ Builtin.zeroCells (Value.int .i64 0).cells (grownCap w n 0 3 - n)) 3)) w.heap.size (.slice (some ⟨w.heap.size,0,none⟩) 0 (grownCap w n 0 3)) []∧Below w.heap.size w (w.drew.alloc (.cells (Builtin.zeroCells (Value.int .i64 0).cells n ++ Builtin.zeroCells (Value.int .i64 0).cells (grownCap w n 0 3 - n)) 3))):=by
  refine⟨⟨rfl,.inr ⟨w.heap.size,grownCap w n 0 3,_,rfl,Nat.le_refl _,heap_alloc_new w.drew _,Nat.zero_le _,hle,?_,by simp [ivals]⟩⟩,(Below.refl _ _).drew.alloc (Nat.le_refl _) _⟩
  simp[Builtin.zeroCells,Value.cells]
  omega
 generalize w.drew.alloc _=W at hap HO
 generalize grownCap w n 0 3=cp at *
 have d1:decide ((n:Int) < 0)=false:=decide_eq_false (by omega)
 have d2:decide ((0:Int) < (n:Int))=true:=decide_eq_true (by omega)
 have d3:decide (0 < n)=true:=decide_eq_true (by omega)
 clear hi0 hz0 hz1 hz2
 go_enter Tryz.func161,Tryz.ntmps161
 go_wp2_with (at_builtin; refine wpList_by_run rfl _ _ _ _ rfl rfl rfl hap ?_)
 go_wp2_with fail
 go_ret
 exact⟨w.heap.size,cp,rfl,HO.out⟩
def catTo (Ls:Nat→List Int):Nat→List Int
 | 0=>[]
 | i+1=>catTo Ls i ++ Ls i
theorem catTo_small {Ls:Nat→List Int} (h:∀ i,i < 4→(Ls i).length≤200):∀ i,i≤4→(catTo Ls i).length≤200 * i
 | 0,_=>by simp [catTo]
 | i+1,hi=>by
  have h1:=catTo_small h i (by omega)
  have h2:=h i (by omega)
  show (catTo Ls i ++ Ls i).length≤_
  rw[List.length_append]
  omega
structure Four (w:World) (sb:Nat) (A:Nat→Option Addr) (C:Nat→Nat) (Ls:Nat→List Int):Prop where
 lt:sb < w.heap.size
 cell:∀ i,i < 4→w.cell? ⟨sb,i,none⟩=some (.slice (A i) (Ls i).length (C i))
 row:∀ i,i < 4→∀ ad,A i=some ad→∀ j u,(ivals (Ls i))[j]?=some u→w.cell? (ad.add j)=some u
 low:∀ i,i < 4→∀ ad,A i=some ad→∃ g,ad=⟨g,0,none⟩∧g < w.heap.size
 none:∀ i,i < 4→A i=none→(Ls i).length=0∧C i=0
 small:∀ i,i < 4→(Ls i).length≤200
theorem Four.called {w w':World} {sb:Nat} {A:Nat→Option Addr} {C:Nat→Nat} {Ls:Nat→List Int} (h:Four w sb A C Ls) (hb:Below w.heap.size w w'):Four w' sb A C Ls where
 lt:=Nat.lt_of_lt_of_le h.lt hb.size
 cell:=fun i hi=>(hb.cell (p:=⟨sb,i,Option.none⟩) h.lt).trans (h.cell i hi)
 row:=fun i hi ad he j u hu=>by
  obtain⟨g,rfl,hg⟩:=h.low i hi ad he
  rw[← h.row i hi _ he j u hu,Addr.add_lit]
  exact hb.cell (p:=⟨g,0+j,Option.none⟩) hg
 low:=fun i hi ad he=>by
  obtain⟨g,e,hg⟩:=h.low i hi ad he
  exact⟨g,e,Nat.lt_of_lt_of_le hg hb.size⟩
 none:=h.none
 small:=h.small
set_option maxRecDepth 100000 in
set_option maxHeartbeats 1600000 in
theorem concat_four (sb c:Nat) (A:Nat→Option Addr) (C:Nat→Nat) (Ls:Nat→List Int) (w:World) (h:Four w sb A C Ls) (h1:1≤(catTo Ls 4).length):
  Calls Tryz.prog 123 #[.slice (some ⟨sb,0,none⟩) 4 c] w fun e w'=>∃ a c',e=.returned (.slice a (catTo Ls 4).length c')∧NumRow w' w.heap.size (.slice a (catTo Ls 4).length c') (catTo Ls 4)∧Below w.heap.size w w':=by
 have HF:=hid_of h
 have hsm:=catTo_small h.small
 clear h
 go_enter Tryz.func123,Tryz.ntmps123
 go_wp2_with fail
 go_loopg [3,11] 5 (fun gk v u w'=>∃ i:Nat,i≤4∧v=.int .i64 ((catTo Ls i).length:Int)∧u=.int .i64 (i:Int)∧4 - i≤gk∧Hid (w'=w))
 case atStart=>exact⟨0,by omega,rfl,rfl,by omega,rfl⟩
 case round=>
  obtain⟨i,hi,rfl,rfl,hgk,HE⟩:=hrel
  have hE:w=wr:=HE.out.symm
  subst hE
  clear HE
  by_cases hlt:i < 4
  ·have dl:decide ((i:Int) < 4)=true:=decide_eq_true (by omega)
   have dl2:decide (i < 4)=true:=decide_eq_true hlt
   have hc:=HF.out.cell i hlt
   have hl:=HF.out.lt
   have hs1:=hsm i (by omega)
   have hs2:=HF.out.small i hlt
   have HNX:Hid ((catTo Ls (i+1)).length=(catTo Ls i).length+(Ls i).length):=by
    show (catTo Ls i ++ Ls i).length=_
    rw[List.length_append]
   have x0:(0:Int)≤(i:Int):=by omega
   have x1:(i:Int) < 4:=by omega
   generalize (catTo Ls i).length=n1 at *
   generalize (Ls i).length=n2 at *
   have dn:decide ((n1:Int)+(n2:Int) < 0)=false:=decide_eq_false (by omega)
   go_wp2_with fail
   go_roundg (4 - (i+1))
   case measure=>omega
   case rel=>exact⟨i+1,by omega,by rw [HNX.out]; go_num,by go_num,Nat.le_refl _,rfl⟩
  ·obtain rfl:i=4:=by omega
   have dl:decide (((4:Nat):Int) < 4)=false:=by decide
   have hgr:=grow_nil (catTo Ls 4).length w h1 (by have:=hsm 4 (by omega); omega)
   go_wp2_with fail
   refine hgr.mono ?_
   clear hgr
   rintro e w1 ⟨g,c1,rfl,hnr,hb⟩
   have H0:Hid (NumRow w1 w.heap.size (.slice (some ⟨g,0,none⟩) 0 c1) (catTo Ls 0)∧Below w.heap.size w w1):=⟨hnr,hb⟩
   clear hnr hb
   go_wp2_with fail
   go_loopg [6,27] 5 (fun gk v u w'=>∃ (i:Nat) (a:Option Addr) (c:Nat),i≤4∧v=.slice a (catTo Ls i).length c∧u=.int .i64 (i:Int)∧4 - i≤gk∧Hid (NumRow w' w.heap.size (.slice a (catTo Ls i).length c) (catTo Ls i)∧Below w.heap.size w w'))
   case atStart=>exact⟨0,_,_,by omega,rfl,rfl,by omega,H0⟩
   case round=>
    clear H0
    obtain⟨i,a,cc,hi,rfl,rfl,hgk,hR⟩:=hrel
    by_cases hlt:i < 4
    ·have dl:decide ((i:Int) < 4)=true:=decide_eq_true (by omega)
     have dl2:decide (i < 4)=true:=decide_eq_true hlt
     have hF:=HF.out.called hR.out.2
     have hc:=hF.cell i hlt
     have hl:=hF.lt
     have hs1:=hsm i (by omega)
     have hs2:=hF.small i hlt
     have x0:(0:Int)≤(i:Int):=by omega
     have x1:(i:Int) < 4:=by omega
     have hrw:=hF.row i hlt
     have hnn:=hF.none i hlt
     have HRW:=hid_of hrw
     have HNN:=hid_of hnn
     have hsz:=hR.out.2.size
     clear hF hrw hnn
     go_wp2_with (at_builtin; refine nums_append (S:=w.heap.size) (xs:=catTo Ls i) (ys:=Ls i) rfl _ _ rfl rfl hR.out.1 (A i) (Ls i).length (C i) rfl rfl HRW.out HNN.out (by omega) hsz ?_)
     intro v2 w2 y1 y2
     obtain⟨a2,c2,hv2,_⟩:=y1.form
     subst hv2
     have HN:Hid (NumRow w2 w.heap.size (.slice a2 (catTo Ls (i+1)).length c2) (catTo Ls (i+1))∧Below w.heap.size w w2):=⟨y1,hR.out.2.grown y2 hsz (fun k e=>(World.ownsRow.lt hR.out.1 k e).1)⟩
     have HLN:Hid ((catTo Ls i ++ Ls i).length=(catTo Ls (i+1)).length):=rfl
     clear y1 y2 hR HRW HNN hc
     rw[HLN.out]
     go_wp2_with fail
     go_roundg (4 - (i+1))
     case measure=>omega
     case rel=>exact⟨i+1,a2,c2,by omega,rfl,by go_num,Nat.le_refl _,HN⟩
    ·obtain rfl:i=4:=by omega
     have dl:decide (((4:Nat):Int) < 4)=false:=by decide
     have HE:=hid_of hR.out
     clear hR
     go_wp2_with fail
     go_ret
     exact⟨a,cc,rfl,HE.out⟩
theorem fixed_first:catTo (fun i=>if i=0 then List.replicate 144 8 else if i=1 then List.replicate 112 9 else if i=2 then List.replicate 24 7 else List.replicate 8 8) 4=firstJ fixed1 288:=by decide +kernel
theorem fixed_second:List.replicate 32 (5:Int)=firstJ fixed2 32:=by decide +kernel
theorem repeat_new (k:Nat) (y:Int) (w:World) (hk1:1≤k) (hk:k≤1000):
  Calls Tryz.prog 124 #[.slice (some ⟨w.heap.size,0,none⟩) 1 1,.int .i64 (k:Int)] (w.alloc (.cells #[.int .i64 y] 3)) fun e w'=>∃ g,e=.returned (.slice (some ⟨g,0,none⟩) k k)∧NumRow w' w.heap.size (.slice (some ⟨g,0,none⟩) k k) (List.replicate k y)∧Below w.heap.size w w':=by
 have hn:=heap_alloc_new w (.cells #[.int .i64 y] 3)
 refine (repeat_one w.heap.size 1 k y _ ((cell_of_block hn 0).trans rfl) (by simp) hk1 hk).mono ?_
 rintro e w' ⟨g,rfl,h1,h2⟩
 have hs:(w.alloc (.cells #[.int .i64 y] 3)).heap.size=w.heap.size+1:=World.size_alloc _ _
 rw[hs] at h1
 refine⟨g,rfl,?_,bnext (bstart _ _) h2⟩
 refine⟨h1.1,?_⟩
 rcases h1.2 with q | ⟨g',cap,cur,q1,q2,q3⟩
 ·exact .inl q
 ·exact .inr ⟨g',cap,cur,q1,by omega,q3⟩
theorem row_facts {w:World} {S g k:Nat} {y:Int} (h:NumRow w S (.slice (some ⟨g,0,none⟩) k k) (List.replicate k y)) (_hk:1≤k):g < w.heap.size∧∀ j u,(ivals (List.replicate k y))[j]?=some u→w.cell? ((⟨g,0,none⟩:Addr).add j)=some u:=by
 obtain⟨a,c,hv,_,_,_,hr⟩:=h.form
 have hl:=(World.ownsRow.lt h g rfl).2
 rw[List.length_replicate] at hv
 cases hv
 exact⟨hl,hr _ rfl⟩
def fixA (g0 g1 g2 g3:Nat):Nat→Option Addr:=fun i=>if i=0 then some ⟨g0,0,none⟩ else if i=1 then some ⟨g1,0,none⟩ else if i=2 then some ⟨g2,0,none⟩ else some ⟨g3,0,none⟩
def fixC:Nat→Nat:=fun i=>if i=0 then 144 else if i=1 then 112 else if i=2 then 24 else 8
def fixL:Nat→List Int:=fun i=>if i=0 then List.replicate 144 8 else if i=1 then List.replicate 112 9 else if i=2 then List.replicate 24 7 else List.replicate 8 8
theorem four_fixed {w:World} {S0 S1 S2 S3 g0 g1 g2 g3:Nat} (h0:NumRow w S0 (.slice (some ⟨g0,0,none⟩) 144 144) (List.replicate 144 8)) (h1:NumRow w S1 (.slice (some ⟨g1,0,none⟩) 112 112) (List.replicate 112 9)) (h2:NumRow w S2 (.slice (some ⟨g2,0,none⟩) 24 24) (List.replicate 24 7)) (h3:NumRow w S3 (.slice (some ⟨g3,0,none⟩) 8 8) (List.replicate 8 8)) (t:TypeId):
  Four (w.alloc (.cells #[.slice (some ⟨g0,0,none⟩) 144 144,.slice (some ⟨g1,0,none⟩) 112 112,.slice (some ⟨g2,0,none⟩) 24 24,.slice (some ⟨g3,0,none⟩) 8 8] t)) w.heap.size (fixA g0 g1 g2 g3) fixC fixL:=by
 have hn:=heap_alloc_new w (.cells #[.slice (some ⟨g0,0,none⟩) 144 144,.slice (some ⟨g1,0,none⟩) 112 112,.slice (some ⟨g2,0,none⟩) 24 24,.slice (some ⟨g3,0,none⟩) 8 8] t)
 have hb:=bstart w (.cells #[.slice (some ⟨g0,0,none⟩) 144 144,.slice (some ⟨g1,0,none⟩) 112 112,.slice (some ⟨g2,0,none⟩) 24 24,.slice (some ⟨g3,0,none⟩) 8 8] t)
 generalize w.alloc _=W at hn hb
 have r0:=row_facts (h0.called hb) (by omega)
 have r1:=row_facts (h1.called hb) (by omega)
 have r2:=row_facts (h2.called hb) (by omega)
 have r3:=row_facts (h3.called hb) (by omega)
 refine⟨block_lt hn,fun i hi=>?_,fun i hi ad he j u hu=>?_,fun i hi ad he=>?_,fun i hi he=>?_,fun i hi=>?_⟩
 ·rw[cell_of_block hn i]
  rcases (show i=0∨i=1∨i=2∨i=3 by omega) with rfl | rfl | rfl | rfl <;> simp [fixA,fixC,fixL]
 ·rcases (show i=0∨i=1∨i=2∨i=3 by omega) with rfl | rfl | rfl | rfl
  ·cases he
   exact r0.2 j u hu
  ·cases he
   exact r1.2 j u hu
  ·cases he
   exact r2.2 j u hu
  ·cases he
   exact r3.2 j u hu
 ·rcases (show i=0∨i=1∨i=2∨i=3 by omega) with rfl | rfl | rfl | rfl
  ·cases he
   exact⟨g0,rfl,r0.1⟩
  ·cases he
   exact⟨g1,rfl,r1.1⟩
  ·cases he
   exact⟨g2,rfl,r2.1⟩
  ·cases he
   exact⟨g3,rfl,r3.1⟩
 ·rcases (show i=0∨i=1∨i=2∨i=3 by omega) with rfl | rfl | rfl | rfl <;> cases he
 ·rcases (show i=0∨i=1∨i=2∨i=3 by omega) with rfl | rfl | rfl | rfl <;> simp [fixL]
theorem fix_first:catTo fixL 4=firstJ fixed1 288:=fixed_first
set_option maxRecDepth 100000 in
set_option maxHeartbeats 1600000 in
theorem implFixed (w:World):
  Calls Tryz.prog 82 #[] w fun e w'=>∃ a1 c1 a2 c2 K,e=.returned (.tuple #[.slice a1 288 c1,.slice a2 32 c2])∧NumRow w' w.heap.size (.slice a1 288 c1) (firstJ fixed1 288)∧NumRow w' K (.slice a2 32 c2) (firstJ fixed2 32)∧(∀ k,(Value.slice a1 288 c1).ownBlock=some k→k < K)∧Below w.heap.size w w'∧w.heap.size≤K:=by
 have k1:=fun w=>repeat_new 144 8 w (by omega) (by omega)
 have k2:=fun w=>repeat_new 112 9 w (by omega) (by omega)
 have k3:=fun w=>repeat_new 24 7 w (by omega) (by omega)
 have k4:=fun w=>repeat_new 8 8 w (by omega) (by omega)
 have k5:=fun w=>repeat_new 32 5 w (by omega) (by omega)
 rw[show ((144:Nat):Int)=144 from rfl] at k1
 rw[show ((112:Nat):Int)=112 from rfl] at k2
 rw[show ((24:Nat):Int)=24 from rfl] at k3
 rw[show ((8:Nat):Int)=8 from rfl] at k4
 rw[show ((32:Nat):Int)=32 from rfl,fixed_second] at k5
 go_enter Tryz.func82,Tryz.ntmps82
 go_wp2_with fail
 refine (k1 w).mono ?_
 clear k1
 rintro e w1 ⟨g0,rfl,r1,b1⟩
 have H1:=hid_of (And.intro r1 b1)
 clear r1 b1
 go_wp2_with fail
 refine (k2 w1).mono ?_
 clear k2
 rintro e w2 ⟨g1,rfl,r2,b2⟩
 have H2:=hid_of (And.intro (H1.out.1.called b2) (And.intro r2 (bnext H1.out.2 b2)))
 clear r2 b2 H1
 go_wp2_with fail
 refine (k3 w2).mono ?_
 clear k3
 rintro e w3 ⟨g2,rfl,r3,b3⟩
 have H3:=hid_of (And.intro (H2.out.1.called b3) (And.intro (H2.out.2.1.called b3) (And.intro r3 (bnext H2.out.2.2 b3))))
 clear r3 b3 H2
 go_wp2_with fail
 refine (k4 w3).mono ?_
 clear k4
 rintro e w4 ⟨g3,rfl,r4,b4⟩
 have HB4:=hid_of (bal (bnext H3.out.2.2.2 b4) (.cells #[.slice (some ⟨g0,0,none⟩) 144 144,.slice (some ⟨g1,0,none⟩) 112 112,.slice (some ⟨g2,0,none⟩) 24 24,.slice (some ⟨g3,0,none⟩) 8 8] 25))
 have hca:=concat_four w4.heap.size 4 _ _ _ _ (four_fixed (H3.out.1.called b4) (H3.out.2.1.called b4) (H3.out.2.2.1.called b4) r4 25) (by rw [fix_first,firstJ_length]; omega)
 rw[fix_first,firstJ_length] at hca
 clear r4 b4 H3
 go_wp2_with fail
 refine hca.mono ?_
 clear hca
 generalize w4.alloc _=W4 at HB4 ⊢
 rintro e w5 ⟨a1,c1,rfl,r5,b5⟩
 have HB5:=hid_of (bnext HB4.out b5)
 have HR5:Hid (NumRow w5 w.heap.size (.slice a1 288 c1) (firstJ fixed1 288)):=by
  refine⟨r5.1,?_⟩
  have:=HB4.out.size
  rcases r5.2 with q | ⟨g',cap,cur,q1,q2,q3⟩
  ·exact .inl q
  ·exact .inr ⟨g',cap,cur,q1,by omega,q3⟩
 clear r5 b5 HB4
 go_wp2_with fail
 refine (k5 w5).mono ?_
 clear k5
 rintro e w6 ⟨g5,rfl,r6,b6⟩
 have HE:Hid (NumRow w6 w.heap.size (.slice a1 288 c1) (firstJ fixed1 288)∧NumRow w6 w5.heap.size (.slice (some ⟨g5,0,none⟩) 32 32) (firstJ fixed2 32)∧(∀ k,(Value.slice a1 288 c1).ownBlock=some k→k < w5.heap.size)∧Below w.heap.size w w6∧w.heap.size≤w5.heap.size):=⟨HR5.out.called b6,r6,fun k e=>(World.ownsRow.lt HR5.out k e).2,bnext HB5.out b6,HB5.out.size⟩
 clear r6 b6 HB5 HR5
 go_wp2_with fail
 go_ret2
 exact⟨a1,c1,_,32,w5.heap.size,rfl,HE.out⟩
end Go.Proofs.YtklpiihnbokkkaaGreatDoor
