/-
  Texts of the proof, put together.
-/
import Derived.Test.YtklpiihnbokkkaaGreatDoorFk26
import Derived.RangeFuncNested
import Derived.RangeFuncBound
import Derived.OwnWalkIn
import Derived.LoopNIn
import Derived.LoopIn
import Derived.Shelf.RegionOpen
namespace Go.Proofs.YtklpiihnbokkkaaGreatDoor
section
open Go.RowKit Go.Shelf
theorem calls_of_marks {P:Program} {f:FuncId} {fn:Func} {c:Code} {args:Array Value} {w:World} {R:Ending→World→Prop} (hf:P.funcs[f]?=some fn) (hb:fn.body=some c)
  (h:c.wp P (bodyPostM Fence.wide 6 P fn R) { tmps:=args ++ Array.replicate (fn.ntmps - args.size) undef,defers:=[] } w):Calls P f args w R:=
 (callsIn_wide (n:=6)).1 (callsIn_of_wp_marks hf hb trivial (wpIn_wide.2 h) rfl)
def TellsNext (gf:Nat) (lb:Array Value) (encs:Nat→Array Value) (N:Nat) (Kp:World→World→Prop) (W:World):Prop:=
 ∀ (l:Nat) (J:Nat→World→Prop) (V:World),Kp W V→(∀ k X n,J k X→J k (X.drewN n))→
  (∀ k X,k < N→J k X→YieldAt Fence.wide 4 Tryz.prog l (encs k) X fun e Y=>e=.returned (.bool true)∧J (k+1) Y∧Kp X Y)→J 0 V→
  CallsIn Fence.wide 5 Tryz.prog gf (#[.func (.yield l) #[] #[]] ++ lb) V fun e Y=>(∃ v,e=.returned v)∧J N Y
def Rec (W X:World) (r:Loop):Prop:=X.heap[W.heap.size+1]?=some (.loop r)∧X.heap[W.heap.size]?=some (.deferred (some []))
theorem Rec.kept {W X Y:World} {r:Loop} (h:Rec W X r) (hk:KeepsFrom W.heap.size X Y):Rec W Y r:=
 ⟨hk.same _ _ (Nat.le_succ _) h.1 rfl,hk.same _ _ (Nat.le_refl _) h.2 rfl⟩
theorem Rec.put {W X:World} {r:Loop} (h:Rec W X r) (r':Loop):Rec W (X.putObj (W.heap.size+1) (.loop r')) r':=
 ⟨World.putObj_heap_same (block_lt h.1),(World.putObj_heap_other (by omega)).trans h.2⟩
theorem wp_range_next {T:Array Value} {g:Operand} {ps:Array Tmp} {assign body:Code} {Q:Exit→Act→World→Prop} {W:World} {gf:Nat} {lb:Array Value} (encs:Nat→Array Value) (N:Nat) (Kp:World→World→Prop)
  (hg:({ tmps:=T,defers:=[] }:Act).eval g=.func (.func gf) #[] lb) (eg:∀ args w,(callFunc gf args).run Tryz.prog w=.ok (.enter gf args) w) (hps:∀ k,(encs k).size=ps.size) (hseq:TellsNext gf lb encs N Kp W)
  (hKt:∀ {A B C:World},Kp A B→Kp B C→Kp A C) (hKp:∀ (X:World) (i:Nat) (o:Obj),W.heap.size≤i→Kp X (X.putObj i o)) (hKa:∀ (X:World) (o:Obj),W.heap.size≤X.heap.size→Kp X (X.alloc o))
  (I:Nat→World→Prop) (hI:OwnFrom W.heap.size I) (hId:∀ k X n,I k X→I k (X.drewN n)) (h0:I 0 W) (a₁:Nat→Act)
  (hassign:∀ (l k:Nat) (X:World) (K:Act→World→Prop),K (a₁ k) X→assign.wpIn (Fence.wide.inRound l) 4 Tryz.prog (Exit.then K (fun _ _ _=>False)) { tmps:=(ps.zip (encs k)).foldl (fun t (p,v)=>t.setIfInBounds p v) T,defers:=[] } X)
  (hbody:∀ (l k:Nat) (X:World),k < N→I k X→body.wpIn (Fence.wide.inRound l) 4 Tryz.prog (fun e _ Y=>e=.normal∧KeepsFrom W.heap.size X Y∧Kp X Y∧I (k+1) Y) (a₁ k) X)
  (hdone:∀ (X:World),I N X→X.heap[W.heap.size]?=some (.deferred (some []))→Q .normal { tmps:=T,defers:=[{ target:=.collected W.heap.size,args:=#[] }] } X):
  (Code.rangeFunc g ps assign body).wp Tryz.prog Q { tmps:=T,defers:=[] } W:=by
 refine (wpIn_wide (n:=6)).1 (wpIn_rangeFunc fun fn hfn=>?_)
 obtain⟨rc,hrc⟩:∃ rc:LoopState→Loop,rc=fun st=>{ state:=st,pending:=none,fn:=fn,tmps:=T,params:=ps,assign:=assign,body:=body,defers:=W.heap.size }:=⟨_,rfl⟩
 obtain⟨V,hV⟩:∃ V,V=(W.alloc (.deferred (some []))).alloc (.loop (rc .ready)):=⟨_,rfl⟩
 have hs1:(W.alloc (.deferred (some []))).heap.size=W.heap.size+1:=by simp
 have hRec:Rec W V (rc .ready):=by
  rw[hV]
  refine⟨?_,?_⟩
  ·have:=World.alloc_heap_new (W.alloc (.deferred (some []))) (.loop (rc .ready))
   rw[hs1] at this
   exact this
  ·exact ((bstart (W.alloc (.deferred (some []))) _).block _ (by omega)).trans (World.alloc_heap_new W _)
 have hIV:I 0 V:=by
  rw[hV]
  exact hI.alloc _ (hI.alloc _ h0)
 have hKV:Kp W V:=by
  rw[hV]
  exact hKt (hKa W _ (Nat.le_refl _)) (hKa _ _ (by omega))
 refine⟨W.heap.size+1,[{ target:=.collected W.heap.size,args:=#[] }],V,{ target:=.fn (.func gf) lb,args:=#[.func (.yield (W.heap.size+1)) #[] #[]] },V,gf,#[.func (.yield (W.heap.size+1)) #[] #[]] ++ lb,V,?_,?_,?_,?_,fun _=>by omega,?_⟩
 ·rw[hV,hrc]
  exact run_enterLoop_outer _ _ _ _ _
 ·simp only [resolve,hg]
  simp[go_sem]
 ·exact fun _ _=>trivial
 ·simp[invoke,go_sem,eg]
 ·refine (hseq (W.heap.size+1) (fun k X=>I k X∧Rec W X (rc .ready)) V hKV (fun k X n h=>⟨hId k X n h.1,h.2⟩) ?_ ⟨hIV,hRec⟩).mono ?_
  ·rintro k X hk ⟨hi,hr⟩
   have hy:=run_yield (P:=Tryz.prog) (args:=encs k) hr.1 (by rw [hrc]; exact hps k)
   rw[hrc] at hy
   refine⟨fn,_,assign,body,hy,roundIn_of_wpIn hfn (hassign _ k X _ ⟨_,run_beginRound hr.1 (by rw [hrc]),?_⟩)⟩
   have hb:Rec W (X.putObj (W.heap.size+1) (.loop { rc .ready with state:=.busy })) { rc .ready with state:=.busy }:=hr.put _
   refine wpIn_mono (hbody _ k _ hk (hI.putObj _ hi (Nat.le_succ _) hr.1 rfl)) ?_
   rintro e a3 Y ⟨rfl,h1,h2,h3⟩
   have hy3:=hb.kept h1
   have he:=run_endRound (P:=Tryz.prog) none hy3.1
   refine⟨_,_,he,rfl,⟨hI.putObj _ h3 (Nat.le_succ _) hy3.1 rfl,?_⟩,hKt (hKt (hKp X _ _ (Nat.le_succ _)) h2) (hKp Y _ _ (Nat.le_succ _))⟩
   have hz:=hy3.put { rc .ready with state:=.ready,pending:=none }
   rw[hrc] at hz ⊢
   exact hz
  ·rintro e Y ⟨⟨v,rfl⟩,hi,hr⟩
   have he:=run_endLoop (P:=Tryz.prog) hr.1 (by rw [hrc]; simp)
   have hp:(rc .ready).pending=none:=by rw [hrc]
   rw[hp] at he
   exact⟨none,_,he,hdone _ (hI.putObj _ hi (Nat.le_succ _) hr.1 rfl) ((World.putObj_heap_other (by omega)).trans hr.2)⟩
end
section
open Go.RowKit Go.Shelf
attribute [local go_sem] Oper.semAt_some
def Both (a b:Nat) (W W':World):Prop:=W'.heap[a]?=W.heap[a]?∧W'.heap[b]?=W.heap[b]?
def chunkAt (g off n k:Nat):Array Value:=#[.slice (some ⟨g,off+60 * k * 3,none⟩) (min 60 (n - 60 * k)) (min 60 (n - 60 * k))]
theorem chunk_any (a:Option Addr) (len cap:Nat) (w:World):
  Calls Tryz.prog 90 #[.slice a len cap,.int .i64 60] w fun e w'=>e=.returned (.func (.func 138) #[] #[.pointer (some ⟨w.heap.size,0,none⟩),.pointer (some ⟨w.heap.size+1,0,none⟩)])∧w'=(w.alloc (.cells #[.slice a len cap] 72)).alloc (.cells #[.int .i64 60] 3):=by
 go_enter Tryz.func90,Tryz.ntmps90
 go_wp2_with fail
 go_ret
 exact⟨rfl,rfl⟩
set_option maxRecDepth 100000 in
set_option maxHeartbeats 2000000 in
theorem chunk_tells (Bs Bn g off len cap:Nat) (hlen:len≤1048576) (hcap:len≤cap) (W:World) (hBs:W.cell? ⟨Bs,0,none⟩=some (.slice (some ⟨g,off,none⟩) len cap)) (hBn:W.cell? ⟨Bn,0,none⟩=some (.int .i64 60)):
  TellsNext 138 #[.pointer (some ⟨Bs,0,none⟩),.pointer (some ⟨Bn,0,none⟩)] (chunkAt g off len) ((len+59) / 60) (Both Bs Bn) W:=by
 intro l J V hWV hJd hY h0
 have HY:=hid_of hY
 have HJD:=hid_of hJd
 have HWV:=hid_of hWV
 clear hY hJd hWV
 refine callsIn_of_wp Tryz.func138 rfl trivial ?_ rfl
 simp only [Tryz.ntmps138,List.size_toArray,List.length_cons,List.length_nil,Nat.reduceAdd,Nat.reduceSub,Array.replicate_succ,Array.replicate_zero,List.push_toArray,List.append_toArray,List.nil_append,List.cons_append]
 gi_wp2
 gi_loopw [4] (fun i wr=>∃ k:Nat,k≤(len+59) / 60∧i=.int .i64 ((60 * k:Nat):Int)∧Hid (J k wr∧Both Bs Bn W wr))
  (fun i _=>(len+60 - intOf i).toNat)
 case atStart=>exact⟨0,Nat.zero_le _,rfl,h0,HWV.out⟩
 case round=>
  obtain⟨k,hk,rfl,hS⟩:=hrel
  have c1:wr.cell? ⟨Bs,0,none⟩=some (.slice (some ⟨g,off,none⟩) len cap):=(heap_cell hS.out.2.1 0).trans hBs
  have c2:wr.cell? ⟨Bn,0,none⟩=some (.int .i64 60):=(heap_cell hS.out.2.2 0).trans hBn
  by_cases hlt:60 * k < len
  ·have d1:decide (((60 * k:Nat):Int) < (len:Int))=true:=decide_eq_true (by omega)
   have h1:(0:Int)≤((60 * k:Nat):Int):=by omega
   have h2:((60 * k:Nat):Int)≤(len:Int):=by omega
   have h3:((60 * k:Nat):Int)≤(cap:Int):=by omega
   by_cases hfew:len - 60 * k < 60
   ·have q1:((len - 60 * k:Nat):Int) < 60:=by omega
    have q2:decide (((len - 60 * k:Nat):Int) < 60)=true:=decide_eq_true q1
    have q3:min (60:Int) ((len - 60 * k:Nat):Int)=((len - 60 * k:Nat):Int):=by omega
    gi_wp2
    gi_region
    all_goals
     obtain⟨fn,tmps,assign,body,hy,hR⟩:=HY.out k wr.drew (by omega) (HJD.out k wr 1 hS.out.1)
     rw[show chunkAt g off len k=#[.slice (some ⟨g,off+60 * k * 3,none⟩) (len - 60 * k) (len - 60 * k)] from by
      unfold chunkAt
      rw[show min 60 (len - 60 * k)=len - 60 * k by omega]] at hy
     gi_wp2
     refine hR.mono ?_
     rintro e W3 ⟨rfl,hJ3,hk3⟩
     have c4:W3.cell? ⟨Bn,0,none⟩=some (.int .i64 60):=(heap_cell hk3.2 0).trans c2
     have H3:Hid (J (k+1) W3∧Both Bs Bn W W3):=⟨hJ3,hk3.1.trans hS.out.2.1,hk3.2.trans hS.out.2.2⟩
     clear hJ3 hk3
     gi_wp2
     go_roundw
     case rel=>exact⟨k+1,by omega,by go_num,H3⟩
     case measure=>simp [intOf]; omega
   ·have q1:¬ ((len - 60 * k:Nat):Int) < 60:=by omega
    have q2:decide (((len - 60 * k:Nat):Int) < 60)=false:=decide_eq_false q1
    have q3:min (60:Int) ((len - 60 * k:Nat):Int)=60:=by omega
    gi_wp2
    gi_region
    all_goals
     obtain⟨fn,tmps,assign,body,hy,hR⟩:=HY.out k wr.drew (by omega) (HJD.out k wr 1 hS.out.1)
     rw[show chunkAt g off len k=#[.slice (some ⟨g,off+60 * k * 3,none⟩) 60 60] from by
      unfold chunkAt
      rw[show min 60 (len - 60 * k)=60 by omega]] at hy
     gi_wp2
     refine hR.mono ?_
     rintro e W3 ⟨rfl,hJ3,hk3⟩
     have c4:W3.cell? ⟨Bn,0,none⟩=some (.int .i64 60):=(heap_cell hk3.2 0).trans c2
     have H3:Hid (J (k+1) W3∧Both Bs Bn W W3):=⟨hJ3,hk3.1.trans hS.out.2.1,hk3.2.trans hS.out.2.2⟩
     clear hJ3 hk3
     gi_wp2
     go_roundw
     case rel=>exact⟨k+1,by omega,by go_num,H3⟩
     case measure=>simp [intOf]; omega
  ·have d1:decide (((60 * k:Nat):Int) < (len:Int))=false:=decide_eq_false (by omega)
   gi_wp2
   go_end0
   have hkk:k=(len+59) / 60:=by omega
   exact⟨⟨_,rfl⟩,hkk ▸ hS.out.1⟩
where
 heap_cell {W W':World} {g:Nat} (h:W'.heap[g]?=W.heap[g]?) (j:Nat):W'.cell? ⟨g,j,none⟩=W.cell? ⟨g,j,none⟩:=by
  unfold World.cell?
  rw[h]
end
section
open Go.RowKit
theorem oper_round {l n:Nat} {o:Oper} {a:Act} {w:World} {K:Act→World→Prop} {Q:Exit→Act→World→Prop} (hd:∀ c,o.op≠.defer c) (h:o.wp Tryz.prog a w K Q):o.wpIn (Fence.wide.inRound l) n Tryz.prog a w K Q:=by
 refine⟨fun _ _=>trivial,?_⟩
 rw[Oper.semAt_plain _ _ _ hd]
 unfold Oper.wp at h
 generalize (execOp a.eval o).run Tryz.prog w=r at h ⊢
 cases r with
 | ok x w'=>
  cases x with
  | value v=>exact h
  | skip=>exact h
  | defer d=>exact h
  | enter f args=>exact⟨(fun q=>by cases q),CallsIn.inRound l (callsIn_wide.2 h)⟩
  | row row args=>
   refine⟨(fun q=>by cases q),fun c cs _=>?_⟩
   obtain⟨v,w'',h1,h2⟩:=h c cs
   exact⟨v,w'',h1,stepsIn_wide.2 h2⟩
  | _=>exact (h:False).elim
 | halt x w'=>cases x <;> exact h
theorem any_round {l n:Nat} {ops:Array Oper} {Q:Exit→Act→World→Prop} (hd:∀ o∈ops.toList,∀ c,o.op≠.defer c) (hQ:¬ LetsOut Q):∀ (fuel:Nat) (listed:Array Bool) (a:Act) (w:World),wpAny Tryz.prog .any ops Q fuel listed a w→wpAnyIn (Fence.wide.inRound l) n Tryz.prog .any ops Q fuel listed a w
 | 0,_,_,_,h=>h
 | fuel+1,listed,a,w,h=>by
  refine⟨h.1,fun i hi=>?_⟩
  have h2:=h.2 i hi
  unfold wpOp at h2
  unfold wpOpIn
  cases ho:ops[i]? with
  | none=>
   rw[ho] at h2
   exact any_round hd hQ fuel _ _ _ h2
  | some o=>
   rw[ho] at h2
   have hm:o∈ops.toList:=by
    rw[Array.mem_toList_iff]
    exact Array.mem_of_getElem? ho
   simp only [] at h2 ⊢
   split
   ·rename_i hw
    rw[if_pos hw] at h2
    rcases h2 with h3 | h3
    ·exact Oper.wpIn_mono (fun a w=>any_round hd hQ fuel _ a w) (oper_round (hd o hm) h3)
    ·exact (hQ h3.2).elim
   ·rename_i hw
    rw[if_neg hw] at h2
    exact⟨fun _ _=>trivial,any_round hd hQ fuel _ _ _ h2⟩
theorem region_round {l n id:Nat} {ops:Array Oper} {Q:Exit→Act→World→Prop} {a:Act} {w:World} {S:World→Prop} (hd:∀ o∈ops.toList,∀ c,o.op≠.defer c) (hQ:¬ LetsOut Q)
  (h:wpAnyH Tryz.prog .any ops Q S ops.size (Array.replicate ops.size false) a w.drew):(Code.region id ops true).wpIn (Fence.wide.inRound l) n Tryz.prog Q a w:=
 wpIn_region_any (by kernel_rfl) (any_round hd hQ _ _ _ _ (wpAny_of_held _ _ _ _ h))
end
section
open Go.RowKit Go.Joins Go.Shelf OutMath TokMath SearchMath DeflMath
attribute [local go_sem] Oper.semAt_some
def PI (w:World) (t:ByteArray) (L:List Tok) (k:Nat) (V:World):Prop:=∃ (s:ByteArray) (c:Nat),partsSt t L k=some (s,c)∧
 V.heap[w.heap.size]?=some (.cells #[.string (t.extract (off L k) t.size)] 9 (0,0))∧
 V.heap[w.heap.size+1]?=some (.cells #[.string ⟨#[]⟩,.int .i64 0] 43 (0,0))∧
 V.heap[w.heap.size+2]?=some (.cells #[.string s,.int .i64 (c:Int)] 43 (0,0))∧Below w.heap.size w V∧w.heap.size+5≤V.heap.size
theorem PI.own {w V V':World} {t:ByteArray} {L:List Tok} {k B:Nat} {row:Option Nat} (h:PI w t L k V) (hg:V.grownBy V' row) (hB:w.heap.size+5≤B) (hr:∀ r,row=some r→B≤r):PI w t L k V':=by
 obtain⟨s,c,e,h0,h1,h2,h3,h4⟩:=h
 have nr:∀ j,j < w.heap.size+5→some j≠row:=fun j hj q=>by have:=hr j q.symm; omega
 exact⟨s,c,e,(hg.block _ (by omega) (nr _ (by omega))).trans h0,(hg.block _ (by omega) (nr _ (by omega))).trans h1,(hg.block _ (by omega) (nr _ (by omega))).trans h2,h3.grown hg h3.size (fun j q=>by have:=hr j q; omega),Nat.le_trans h4 hg.size⟩
theorem PI.called {w V V':World} {t:ByteArray} {L:List Tok} {k:Nat} (h:PI w t L k V) (hb:Below V.heap.size V V'):PI w t L k V':=by
 obtain⟨s,c,e,h0,h1,h2,h3,h4⟩:=h
 exact⟨s,c,e,(hb.block _ (by omega)).trans h0,(hb.block _ (by omega)).trans h1,(hb.block _ (by omega)).trans h2,bnext h3 hb,Nat.le_trans h4 hb.size⟩
theorem PI.draws {w V:World} {t:ByteArray} {L:List Tok} {k:Nat} (h:PI w t L k V) (n:Nat):PI w t L k (V.drewN n):=by
 obtain⟨s,c,e,h0,h1,h2,h3,h4⟩:=h
 exact⟨s,c,e,h0,h1,h2,bdraws h3 n,h4⟩
theorem two_other {w:World} {b k:Nat} (hk:k≠b) (v0 v1:Value):((w.setCell ⟨b,0,none⟩ v0).setCell ⟨b,1,none⟩ v1).heap[k]?=w.heap[k]?:=by
 simp[World.setCell,Array.getElem?_modify,Ne.symm hk]
theorem two_size (w:World) (b:Nat) (v0 v1:Value):((w.setCell ⟨b,0,none⟩ v0).setCell ⟨b,1,none⟩ v1).heap.size=w.heap.size:=by
 simp[World.setCell]
theorem wp_parts_range {T:Array Value} {assign body:Code} {Q:Exit→Act→World→Prop} {W:World} {gf:Nat} {lb:Array Value} (v:Nat→Value) (N:Nat) (Kp:World→World→Prop)
  (hg:({ tmps:=T,defers:=[] }:Act).eval (.tmp 9)=.func (.func gf) #[] lb) (eg:∀ args w,(callFunc gf args).run Tryz.prog w=.ok (.enter gf args) w) (hseq:TellsNext gf lb (fun k=>#[v k]) N Kp W)
  (hKt:∀ {A B C:World},Kp A B→Kp B C→Kp A C) (hKp:∀ (X:World) (i:Nat) (o:Obj),W.heap.size≤i→Kp X (X.putObj i o)) (hKa:∀ (X:World) (o:Obj),W.heap.size≤X.heap.size→Kp X (X.alloc o))
  (I:Nat→World→Prop) (hI:OwnFrom W.heap.size I) (hId:∀ k X n,I k X→I k (X.drewN n)) (h0:I 0 W)
  (hassign:∀ (l k:Nat) (X:World) (K:Act→World→Prop),K { tmps:=(T.setIfInBounds 10 (v k)).setIfInBounds 6 (v k),defers:=[] } X→assign.wpIn (Fence.wide.inRound l) 4 Tryz.prog (Exit.then K (fun _ _ _=>False)) { tmps:=T.setIfInBounds 10 (v k),defers:=[] } X)
  (hbody:∀ (l k:Nat) (X:World),k < N→I k X→body.wpIn (Fence.wide.inRound l) 4 Tryz.prog (fun e _ Y=>e=.normal∧KeepsFrom W.heap.size X Y∧Kp X Y∧I (k+1) Y) { tmps:=(T.setIfInBounds 10 (v k)).setIfInBounds 6 (v k),defers:=[] } X)
  (hdone:∀ (X:World),I N X→X.heap[W.heap.size]?=some (.deferred (some []))→Q .normal { tmps:=T,defers:=[{ target:=.collected W.heap.size,args:=#[] }] } X):
  (Code.rangeFunc (.tmp 9) #[10] assign body).wp Tryz.prog Q { tmps:=T,defers:=[] } W:=by
 refine wp_range_next (fun k=>#[v k]) N Kp hg eg (fun _=>rfl) hseq hKt hKp hKa I hI hId h0 (fun k=>{ tmps:=(T.setIfInBounds 10 (v k)).setIfInBounds 6 (v k),defers:=[] }) ?_ hbody hdone
 intro l k X K hK
 refine Eq.mp (congrArg (fun T'=>Code.wpIn (Fence.wide.inRound l) 4 Tryz.prog assign (Exit.then K fun _ _ _=>False) { tmps:=T',defers:=[] } X) ?_) (hassign l k X K hK)
 simp
theorem five_made {w w5:World} {t:ByteArray} {L:List Tok} {g off' cp:Nat} (h5:w5=((((w.alloc (.cells #[.string t] 9)).alloc (.cells #[.string ⟨#[]⟩,.int .i64 0] 43)).alloc (.cells #[.string ⟨#[]⟩,.int .i64 0] 43)).alloc (.cells #[.slice (some ⟨g,off',none⟩) L.length cp] 72)).alloc (.cells #[.int .i64 60] 3)):
  Hid (PI w t L 0 w5)∧Hid (w5.cell? ⟨w.heap.size+1+1+1,0,none⟩=some (.slice (some ⟨g,off',none⟩) L.length cp))∧Hid (w5.cell? ⟨w.heap.size+1+1+1+1,0,none⟩=some (.int .i64 60))∧w5.heap.size=w.heap.size+5:=by
 have e1:=heap_alloc_new w (.cells #[.string t] 9)
 generalize h1:w.alloc (.cells #[.string t] 9)=w1 at h5 e1
 have s1:w1.heap.size=w.heap.size+1:=by rw [← h1]; simp
 have b1:Below w.heap.size w w1:=by rw [← h1]; exact bstart _ _
 have e2:=heap_alloc_new w1 (.cells #[.string ⟨#[]⟩,.int .i64 0] 43)
 generalize h2:w1.alloc (.cells #[.string ⟨#[]⟩,.int .i64 0] 43)=w2 at h5 e2
 have s2:w2.heap.size=w1.heap.size+1:=by rw [← h2]; simp
 have b2:Below w1.heap.size w1 w2:=by rw [← h2]; exact bstart _ _
 have e3:=heap_alloc_new w2 (.cells #[.string ⟨#[]⟩,.int .i64 0] 43)
 generalize h3:w2.alloc (.cells #[.string ⟨#[]⟩,.int .i64 0] 43)=w3 at h5 e3
 have s3:w3.heap.size=w2.heap.size+1:=by rw [← h3]; simp
 have b3:Below w2.heap.size w2 w3:=by rw [← h3]; exact bstart _ _
 have e4:=heap_alloc_new w3 (.cells #[.slice (some ⟨g,off',none⟩) L.length cp] 72)
 generalize h4:w3.alloc (.cells #[.slice (some ⟨g,off',none⟩) L.length cp] 72)=w4 at h5 e4
 have s4:w4.heap.size=w3.heap.size+1:=by rw [← h4]; simp
 have b4:Below w3.heap.size w3 w4:=by rw [← h4]; exact bstart _ _
 have e5:=heap_alloc_new w4 (.cells #[.int .i64 60] 3)
 rw[← h5] at e5
 have s5:w5.heap.size=w4.heap.size+1:=by rw [h5]; simp
 have b5:Below w4.heap.size w4 w5:=by rw [h5]; exact bstart _ _
 have f1:=(b5.block _ (by omega)).trans ((b4.block _ (by omega)).trans ((b3.block _ (by omega)).trans ((b2.block _ (by omega)).trans e1)))
 have f2:=(b5.block _ (by omega)).trans ((b4.block _ (by omega)).trans ((b3.block _ (by omega)).trans e2))
 have f3:=(b5.block _ (by omega)).trans ((b4.block _ (by omega)).trans e3)
 have f4:=(b5.block _ (by omega)).trans e4
 rw[s1] at f2
 rw[s2,s1] at f3
 rw[s3,s2,s1] at f4
 rw[s4,s3,s2,s1] at e5
 refine⟨⟨_,_,rfl,?_,f2,f3,bnext (bnext (bnext (bnext b1 b2) b3) b4) b5,by omega⟩,(cell_of_block f4 0).trans rfl,(cell_of_block e5 0).trans rfl,by omega⟩
 rw[off_zero,ByteArray.extract_zero_size]
 exact f1
theorem parts_leave {D:Nat} {X w:World} {s:ByteArray} {c:Int} {T:Array Value} {v:Value} (hx:X.heap[w.heap.size+1]?=some (.cells #[.string ⟨#[]⟩,.int .i64 0] 43 (0,0))) (hK:X.heap[D]?=some (.deferred (some []))) (hD:w.heap.size+1 < D) (hB:Below w.heap.size w X) (hT:T.getD 4 undef=.pointer (some ⟨w.heap.size+1,0,none⟩)) (hv:v=.agg #[.string s,.int .i64 c]):
  LeavesInM Fence.wide 6 Tryz.prog Tryz.f56 T (fun e w'=>e=.returned v∧Below w.heap.size w w') [{ target:=.collected D,args:=#[] }] .returning
   ((X.setCell ⟨w.heap.size+1,0,none⟩ (.string s)).setCell ⟨w.heap.size+1,1,none⟩ (.int .i64 c)):=by
 have hK':=(two_other (w:=X) (b:=w.heap.size+1) (k:=D) (by omega) (.string s) (.int .i64 c)).trans hK
 have hg:=two_set hx (.string s) (.int .i64 c)
 have hB':=two_below hB (show w.heap.size≤w.heap.size+1 by omega) (.string s) (.int .i64 c)
 generalize (X.setCell ⟨w.heap.size+1,0,none⟩ (.string s)).setCell ⟨w.heap.size+1,1,none⟩ (.int .i64 c)=W at hK' hg hB' ⊢
 have hp:=(World.putObj_heap_other (o:=Obj.deferred none) (show w.heap.size+1≠D by omega)).trans hg
 have c0:(W.putObj D (.deferred none)).cell? ⟨w.heap.size+1,0,none⟩=some (.string s):=(cell_of_block hp 0).trans rfl
 have c1:(W.putObj D (.deferred none)).cell? ⟨w.heap.size+1,1,none⟩=some (.int .i64 c):=(cell_of_block hp 1).trans rfl
 have hBf:Below w.heap.size w (W.putObj D (.deferred none)):=hB'.grown (grownBy_putObj' W D _) hB'.size (fun j q=>by cases q; omega)
 refine⟨by simp,.inl ⟨_,_,rfl,run_takeDeferred hK',?_⟩⟩
 subst hv
 refine⟨.agg #[.string s,.int .i64 c],?_,rfl,hBf⟩
 have hT':T[4]?.getD undef=.pointer (some ⟨w.heap.size+1,0,none⟩):=by
  rw[← hT]
  simp
 simp[results,Tryz.results56,go_sem,hT',c0,c1]
set_option maxRecDepth 100000 in
set_option maxHeartbeats 4000000 in
theorem packParts_any (hBB:BestBlockAnswer) (t:ByteArray) (a:Option Addr) (cp:Nat) (L:List Tok) (w:World) (hC:TCame w a L.length (fun j=>L.getD j (0,0,0))) (hs:sizeL L=t.size) (ht:t.size≤2600) (hn:L.length≤t.size) (hp:0 < L.length) (hcp:L.length≤cp) (hR:∀ t∈L,TokRight t) (hG:OrderG w):
  Calls Tryz.prog 56 #[.string t,.slice a L.length cp] w fun e w'=>e=.returned (.agg #[.string (blkS (partsSt t L (partsN L))),.int .i64 (blkN (partsSt t L (partsN L)))])∧Below w.heap.size w w':=by
 rcases hC with h | ⟨g,off',rfl,hg,hc⟩
 ·omega
 have HC:Hid (TCame w (some ⟨g,off',none⟩) L.length (fun j=>L.getD j (0,0,0))):=.inr ⟨g,off',rfl,hg,hc⟩
 have HG:=hid_of hG
 have HR:=hid_of hR
 have hck:=fun W=>chunk_any (some ⟨g,off',none⟩) L.length cp W
 clear hc hG hR
 refine calls_of_marks Tryz.func56 rfl ?_
 simp only [Tryz.ntmps56,List.size_toArray,List.length_cons,List.length_nil,Nat.reduceAdd,Nat.reduceSub,Array.replicate_succ,Array.replicate_zero,List.push_toArray,List.append_toArray,List.nil_append,List.cons_append]
 go_wp2_with fail
 refine (hck _).mono ?_
 rintro e w5 ⟨rfl,h5⟩
 clear hck
 obtain⟨HP,HBs,HBn,hz⟩:Hid (PI w t L 0 w5)∧Hid (w5.cell? ⟨w.heap.size+1+1+1,0,none⟩=some (.slice (some ⟨g,off',none⟩) L.length cp))∧Hid (w5.cell? ⟨w.heap.size+1+1+1+1,0,none⟩=some (.int .i64 60))∧w5.heap.size=w.heap.size+5:=five_made h5
 have HB5:Hid (Below w.heap.size w w5):=by
  obtain⟨_,_,_,_,_,_,h,_⟩:=HP.out
  exact h
 clear h5
 go_wp2_with fail
 refine wp_parts_range (fun k=>.slice (some ⟨g,off'+60 * k * 3,none⟩) (min 60 (L.length - 60 * k)) (min 60 (L.length - 60 * k))) (partsN L) (Both (w.heap.size+1+1+1) (w.heap.size+1+1+1+1)) (by simp [Act.eval]) (enters_of Tryz.func138 (by kernel_rfl) rfl)
  (chunk_tells _ _ g off' L.length cp (by omega) hcp w5 HBs.out HBn.out) (fun h k=>⟨k.1.trans h.1,k.2.trans h.2⟩) (fun X i o hi=>⟨World.putObj_heap_other (by omega),World.putObj_heap_other (by omega)⟩) (fun X o hX=>⟨(bstart X o).block _ (by omega),(bstart X o).block _ (by omega)⟩)
  (PI w t L) (fun k V V' row hs hgr hr=>hs.own hgr (B:=w5.heap.size) (by omega) (fun r e=>(hr r e).1)) (fun k X n h=>h.draws n) HP.out ?_ ?_ ?_
 ·intro l k V K hK
  simp only [List.setIfInBounds_toArray,List.set_cons_succ,List.set_cons_zero] at hK ⊢
  gi_wp2
  exact hK
 ·intro l k X hk hPI
  simp only [List.setIfInBounds_toArray,List.set_cons_succ,List.set_cons_zero]
  have HP1:=hid_of hPI
  obtain⟨s,c,hst,x0,x1,x2,xb,xs⟩:=hPI
  have hk60:60 * k < L.length:=by
   unfold partsN at hk
   omega
  have hpl:=part_length L k
  have hst':=parts_some hs ht hn (k+1) (by omega)
  obtain⟨o',hst1,ho',_⟩:=hst'
  obtain⟨s',c'⟩:=o'
  have hst0:=parts_some hs ht hn k (by omega)
  obtain⟨o0,hst2,ho0,hc0⟩:=hst0
  rw[hst] at hst2
  obtain rfl:=Option.some.inj hst2
  have hf0:=fits_of_outB _ _ ho0
  have hoff:=off_next L k
  have hle:=off_le L (k+1)
  have hle0:=off_le L k
  obtain⟨r,hr⟩:∃ r,r=t.extract (off L k) t.size:=⟨_,rfl⟩
  have hrs:r.size=t.size - off L k:=by rw [hr]; exact cut_size t (Nat.le_refl _)
  obtain⟨n,hnn⟩:∃ n,n=sizeL (prt L k):=⟨_,rfl⟩
  have hrn:r.extract 0 n=t.extract (off L k) (off L (k+1)):=by
   rw[hr,hoff,← hnn]
   exact cut_cut t _ _ (by omega)
  have hrr:r.extract n r.size=t.extract (off L (k+1)) t.size:=by
   rw[hrs,hr,hoff,← hnn]
   exact cut_rest t _ _ (by omega)
  have hlast:((n:Int) == (r.size:Int))=lastP L k:=by
   have h1:=off_end HR.out (k+1)
   unfold lastP
   by_cases q:L.length≤60 * (k+1)
   ·rw[decide_eq_true q]
    have:=h1.2 q
    simp
    omega
   ·rw[decide_eq_false q]
    have:¬ off L (k+1)=sizeL L:=fun z=>q (h1.1 z)
    simp
    omega
  rw[← hr] at x0
  have hp60:(prt L k).length≤60:=by rw [hpl]; omega
  have hsb:s.size≤12000:=hf0.1
  have hcb:c≤96000:=by
   have h1:(c:Int)≤8 * (s.size:Int):=hf0.2.2.1
   omega
  generalize min 60 (L.length - 60 * k)=m at hpl ⊢
  have HM:Hid (∀ W:World,TCame W (some ⟨g,off'+60 * k * 3,none⟩) (prt L k).length (fun j=>(prt L k).getD j (0,0,0))→Calls Tryz.prog 91 #[.slice (some ⟨g,off'+60 * k * 3,none⟩) m m] W fun e w'=>e=.returned (.int .i64 (n:Int))∧Below W.heap.size W w'):=fun W hW=>by
   have h:=madeSize_any _ m (prt L k) W hW (by omega) (part_right HR.out k)
   rw[hpl,← hnn] at h
   exact h
  have HBB:Hid (∀ W:World,TCame W (some ⟨g,off'+60 * k * 3,none⟩) (prt L k).length (fun j=>(prt L k).getD j (0,0,0))→OrderG W→Calls Tryz.prog 54 #[.agg #[.string s,.int .i64 (c:Int)],.string (r.extract 0 n),.slice (some ⟨g,off'+60 * k * 3,none⟩) m m,.bool ((n:Int) == (r.size:Int))] W fun e w'=>e=.returned (.tuple #[.agg #[.string s',.int .i64 (c':Int)],.bool true])∧Below W.heap.size W w'):=fun W hW hGW=>by
   have h:=hBB s c (r.extract 0 n) (some ⟨g,off'+60 * k * 3,none⟩) m (prt L k) ((n:Int) == (r.size:Int)) W (by omega) (by omega) (by omega) (by rw [hrn,cut_size t (by omega)]; omega) hW (by omega) hGW
   have e:bestOut s (c:Int) (r.extract 0 n) (prt L k) ((n:Int) == (r.size:Int))=some (s',c'):=by
    rw[hrn,hlast]
    have:=hst1
    show bestOut s (c:Int) (t.extract (off L k) (off L (k+1))) (prt L k) (lastP L k)=_
    rw[← this]
    show _=(partsSt t L k).bind _
    rw[hst]
    rfl
   rw[e,hpl] at h
   exact h
  have HCX:Hid (TCame X (some ⟨g,off'+60 * k * 3,none⟩) (prt L k).length (fun j=>(prt L k).getD j (0,0,0))):=(part_came HC.out hk60).called xb
  have HGX:Hid (OrderG X):=HG.out.below xb HG.out.1
  have hi0:(0:Int)≤(n:Int):=by omega
  have hi1:(n:Int)≤(r.size:Int):=by omega
  have HRR:=hid_of hrr
  have HST:=hid_of hst1
  have HX0:=hid_of x0
  have HX1:=hid_of x1
  have HX2:=hid_of x2
  have HXB:=hid_of xb
  clear x0 x1 x2 xb hst1 ho' hst ho0 hc0 hf0 hoff hle hle0 hr hrs hnn hrn hrr hlast hpl HP1 hst2
  gi_wp2_with (refine⟨trivial,?_⟩; gi_at_call 91; refine (CallsIn.inRound l (callsIn_wide.2 (HM.out _ HCX.out))).mono ?_; rintro e V1 ⟨rfl,hB1⟩)
  have y0:V1.heap[w.heap.size]?=some (.cells #[.string r] 9 (0,0)):=(hB1.block _ (by omega)).trans HX0.out
  have y2:V1.heap[w.heap.size+2]?=some (.cells #[.string s,.int .i64 (c:Int)] 43 (0,0)):=(hB1.block _ (by omega)).trans HX2.out
  have u0:V1.cell? ⟨w.heap.size,0,none⟩=some (.string r):=(cell_of_block y0 0).trans rfl
  have u1:V1.cell? ⟨w.heap.size+1+1,0,none⟩=some (.string s):=(cell_of_block y2 0).trans rfl
  have u2:V1.cell? ⟨w.heap.size+1+1,1,none⟩=some (.int .i64 (c:Int)):=(cell_of_block y2 1).trans rfl
  have HY0:=hid_of y0
  have HY2:=hid_of y2
  have hl0:=block_lt y0
  have hl2:w.heap.size+1+1 < V1.heap.size:=block_lt y2
  have HC1:=hid_of (HCX.out.called hB1)
  have HG1:Hid (OrderG V1):=HGX.out.below hB1 HGX.out.1
  have HB1:=hid_of hB1
  clear hB1 y0 y2
  refine region_round (S:=fun w':World=>w'.cell? ⟨w.heap.size,0,none⟩=some (.string r)) (by simp) (by
   rintro⟨_,_,h⟩
   exact absurd (show Exit.outgrown=Exit.normal from h.1) (by simp)) ?_
  have HS:(fun w':World=>w'.cell? ⟨w.heap.size,0,none⟩=some (.string r)) V1.drew:=u0
  refine wpAnyH_take (i:=1) (v:=.string r) rfl (by kernel_rfl) (by kernel_rfl) (by kernel_rfl) (fun _ _ _ h=>h) (Or.inl ⟨by rfl,?_⟩) HS ?_
  ·intro w' hS
   have q0:w'.cell? ⟨w.heap.size,0,none⟩=some (.string r):=hS
   go_simp
  simp only [Act.put,List.getElem_toArray,List.getElem_cons_zero,List.getElem_cons_succ,List.setIfInBounds_toArray,List.set_cons_zero,List.set_cons_succ]
  refine wpAnyH_take (i:=2) (v:=.int .i64 (n:Int)) rfl (by kernel_rfl) (by kernel_rfl) (by kernel_rfl) (fun _ _ _ h=>h) (Or.inl ⟨by rfl,?_⟩) HS ?_
  ·intro w' hS
   have q0:w'.cell? ⟨w.heap.size,0,none⟩=some (.string r):=hS
   go_simp
  simp only [Act.put,List.getElem_toArray,List.getElem_cons_zero,List.getElem_cons_succ,List.setIfInBounds_toArray,List.set_cons_zero,List.set_cons_succ]
  refine wpAnyH_take (i:=3) (v:=.string (r.extract 0 n)) rfl (by kernel_rfl) (by kernel_rfl) (by kernel_rfl) (fun _ _ _ h=>h) (Or.inl ⟨by rfl,?_⟩) HS ?_
  ·intro w' hS
   have q0:w'.cell? ⟨w.heap.size,0,none⟩=some (.string r):=hS
   go_simp
  simp only [Act.put,List.getElem_toArray,List.getElem_cons_zero,List.getElem_cons_succ,List.setIfInBounds_toArray,List.set_cons_zero,List.set_cons_succ]
  refine wpAnyH_take (i:=4) (v:=.slice (some ⟨g,off'+60 * k * 3,none⟩) m m) rfl (by kernel_rfl) (by kernel_rfl) (by kernel_rfl) (fun _ _ _ h=>h) (Or.inl ⟨by rfl,?_⟩) HS ?_
  ·intro w' hS
   have q0:w'.cell? ⟨w.heap.size,0,none⟩=some (.string r):=hS
   go_simp
  simp only [Act.put,List.getElem_toArray,List.getElem_cons_zero,List.getElem_cons_succ,List.setIfInBounds_toArray,List.set_cons_zero,List.set_cons_succ]
  refine wpAnyH_take (i:=5) (v:=.int .i64 (n:Int)) rfl (by kernel_rfl) (by kernel_rfl) (by kernel_rfl) (fun _ _ _ h=>h) (Or.inl ⟨by rfl,?_⟩) HS ?_
  ·intro w' hS
   have q0:w'.cell? ⟨w.heap.size,0,none⟩=some (.string r):=hS
   go_simp
  simp only [Act.put,List.getElem_toArray,List.getElem_cons_zero,List.getElem_cons_succ,List.setIfInBounds_toArray,List.set_cons_zero,List.set_cons_succ]
  refine wpAnyH_take (i:=6) (v:=.string r) rfl (by kernel_rfl) (by kernel_rfl) (by kernel_rfl) (fun _ _ _ h=>h) (Or.inl ⟨by rfl,?_⟩) HS ?_
  ·intro w' hS
   have q0:w'.cell? ⟨w.heap.size,0,none⟩=some (.string r):=hS
   go_simp
  simp only [Act.put,List.getElem_toArray,List.getElem_cons_zero,List.getElem_cons_succ,List.setIfInBounds_toArray,List.set_cons_zero,List.set_cons_succ]
  refine wpAnyH_take (i:=7) (v:=.int .i64 (r.size:Int)) rfl (by kernel_rfl) (by kernel_rfl) (by kernel_rfl) (fun _ _ _ h=>h) (Or.inl ⟨by rfl,?_⟩) HS ?_
  ·intro w' hS
   have q0:w'.cell? ⟨w.heap.size,0,none⟩=some (.string r):=hS
   go_simp
  simp only [Act.put,List.getElem_toArray,List.getElem_cons_zero,List.getElem_cons_succ,List.setIfInBounds_toArray,List.set_cons_zero,List.set_cons_succ]
  refine wpAnyH_take (i:=8) (v:=.bool ((n:Int) == (r.size:Int))) rfl (by kernel_rfl) (by kernel_rfl) (by kernel_rfl) (fun _ _ _ h=>h) (Or.inl ⟨by rfl,?_⟩) HS ?_
  ·intro w' hS
   have q0:w'.cell? ⟨w.heap.size,0,none⟩=some (.string r):=hS
   go_simp
  simp only [Act.put,List.getElem_toArray,List.getElem_cons_zero,List.getElem_cons_succ,List.setIfInBounds_toArray,List.set_cons_zero,List.set_cons_succ]
  refine wpAnyH_ready (rs:=[0]) (by kernel_rfl) (by simp) ?_
  refine AllReadyH.cons rfl (fun K hK=>?_) AllReadyH.nil
  go_simp
  refine hK.out _ _ HS (fun _=>?_)
  clear hK K
  refine wpAnyH_ready (rs:=[9]) (by kernel_rfl) (by simp) ?_
  refine AllReadyH.cons rfl (fun K hK=>?_) AllReadyH.nil
  go_simp
  refine (HBB.out _ (by exact HC1.out) (by exact HG1.out)).mono ?_
  rintro e V2 ⟨rfl,hB2⟩
  have z2:V2.heap[w.heap.size+2]?=some (.cells #[.string s,.int .i64 (c:Int)] 43 (0,0)):=(hB2.block _ hl2).trans HY2.out
  have z0:V2.heap[w.heap.size]?=some (.cells #[.string r] 9 (0,0)):=(hB2.block _ hl0).trans HY0.out
  have v0:V2.cell? ⟨w.heap.size,0,none⟩=some (.string r):=(cell_of_block z0 0).trans rfl
  have v1:V2.cell? ⟨w.heap.size+1+1,0,none⟩=some (.string s):=(cell_of_block z2 0).trans rfl
  have v2:V2.cell? ⟨w.heap.size+1+1,1,none⟩=some (.int .i64 (c:Int)):=(cell_of_block z2 1).trans rfl
  have vf:∀ q,V2.frozen? ⟨w.heap.size+1+1,q,none⟩=false:=fun q=>by simp [World.frozen?,z2]
  have vl:w.heap.size+1+1 < V2.heap.size:=block_lt z2
  have HZ2:=hid_of z2
  have HZ0:=hid_of z0
  have HB2:=hid_of hB2
  clear z2 z0 hB2 HS
  refine hK.out _ _ v0 (fun HS2=>?_)
  clear hK K
  refine wpAnyH_take (i:=10) (v:=.tuple #[.agg #[.string s',.int .i64 (c':Int)],.bool true]) rfl (by kernel_rfl) (by kernel_rfl) (by kernel_rfl) (fun _ _ _ h=>h) (Or.inl ⟨by rfl,?_⟩) HS2 ?_
  ·intro w' hS
   have q0:w'.cell? ⟨w.heap.size,0,none⟩=some (.string r):=hS
   go_simp
  simp only [Act.put,List.getElem_toArray,List.getElem_cons_zero,List.getElem_cons_succ,List.setIfInBounds_toArray,List.set_cons_zero,List.set_cons_succ]
  refine wpAnyH_take (i:=11) (v:=.agg #[.string s',.int .i64 (c':Int)]) rfl (by kernel_rfl) (by kernel_rfl) (by kernel_rfl) (fun _ _ _ h=>h) (Or.inl ⟨by rfl,?_⟩) HS2 ?_
  ·intro w' hS
   have q0:w'.cell? ⟨w.heap.size,0,none⟩=some (.string r):=hS
   go_simp
  simp only [Act.put,List.getElem_toArray,List.getElem_cons_zero,List.getElem_cons_succ,List.setIfInBounds_toArray,List.set_cons_zero,List.set_cons_succ]
  refine wpAnyH_take (i:=12) (v:=.bool true) rfl (by kernel_rfl) (by kernel_rfl) (by kernel_rfl) (fun _ _ _ h=>h) (Or.inl ⟨by rfl,?_⟩) HS2 ?_
  ·intro w' hS
   have q0:w'.cell? ⟨w.heap.size,0,none⟩=some (.string r):=hS
   go_simp
  simp only [Act.put,List.getElem_toArray,List.getElem_cons_zero,List.getElem_cons_succ,List.setIfInBounds_toArray,List.set_cons_zero,List.set_cons_succ]
  refine wpAnyH_ready (rs:=[13]) (by kernel_rfl) (by simp) ?_
  refine AllReadyH.cons rfl (fun K hK=>?_) AllReadyH.nil
  go_simp
  have y2:=two_set HZ2.out (.string s') (.int .i64 (c':Int))
  have y0:=(two_other (w:=V2) (show w.heap.size≠w.heap.size+2 by omega) (.string s') (.int .i64 (c':Int))).trans HZ0.out
  have yo:=fun (i:Nat) (hi:i≠w.heap.size+2)=>two_other (w:=V2) hi (.string s') (.int .i64 (c':Int))
  have ys:=two_size V2 (w.heap.size+2) (.string s') (.int .i64 (c':Int))
  have HO:=hid_of yo
  have HSZ:=hid_of ys
  clear yo ys
  refine hK.out _ _ ((cell_of_block y0 0).trans rfl) (fun _=>?_)
  clear hK K
  refine wpAnyH_done (by kernel_rfl) ?_ _
  have HV2:Hid (Below X.heap.size X V2):=by
   have h1:Below V1.heap.size V1 V2:=⟨HB2.out.1,HB2.out.2,HB2.out.3,HB2.out.4,HB2.out.5⟩
   exact bnext HB1.out h1
  have HV3:=hid_of (two_below (bnext HXB.out HV2.out) (show w.heap.size≤w.heap.size+1+1 by omega) (.string s') (.int .i64 (c':Int)))
  generalize (V2.setCell ⟨w.heap.size+1+1,0,none⟩ (.string s')).setCell ⟨w.heap.size+1+1,1,none⟩ (.int .i64 (c':Int))=V3 at y2 y0 HO HSZ HV3 ⊢
  have a0:V3.cell? ⟨w.heap.size,0,none⟩=some (.string r):=(cell_of_block y0 0).trans rfl
  have af:∀ q,V3.frozen? ⟨w.heap.size,q,none⟩=false:=fun q=>by simp [World.frozen?,y0]
  have al:w.heap.size < V3.heap.size:=block_lt y0
  have HA0:=hid_of y0
  have HA2:=hid_of y2
  clear y0 y2 v0 v1 v2 vf vl u0 u1 u2 HS2
  gi_wp2
  have hV2:=HV2.out.size
  have hV3:=HSZ.out
  obtain⟨V4,hV4⟩:∃ V4,V4=V3.setCell ⟨w.heap.size,0,none⟩ (.string (r.extract n r.size)):=⟨_,rfl⟩
  rw[← hV4]
  have e4:V4.heap.size=V3.heap.size:=by rw [hV4]; simp [World.setCell]
  have f4:∀ i,i≠w.heap.size→V4.heap[i]?=V3.heap[i]?:=fun i hi=>by
   rw[hV4]
   simp[World.setCell,Array.getElem?_modify,Ne.symm hi]
  have g4:V4.heap[w.heap.size]?=some (.cells #[.string (t.extract (off L (k+1)) t.size)] 9 (0,0)):=by
   rw[hV4,← HRR.out]
   have:=block_setCell (i:=0) HA0.out (.string (r.extract n r.size))
   simpa using this
  have h4:Below w.heap.size w V4:=by
   rw[hV4]
   exact Below.setCell (p:=⟨w.heap.size,0,none⟩) HV3.out (Nat.le_refl _) _
  have old:∀ i,i < X.heap.size→i≠w.heap.size→i≠w.heap.size+2→V4.heap[i]?=X.heap[i]?:=fun i h1 h2 h3=>
   (f4 i h2).trans ((HO.out i h3).trans (HV2.out.block i h1))
  refine⟨⟨by omega,fun i o hB hi _=>(old i (block_lt hi) (by omega) (by omega)).trans hi⟩,⟨old _ (by omega) (by omega) (by omega),old _ (by omega) (by omega) (by omega)⟩,s',c',HST.out,g4,(old _ (by omega) (by omega) (by omega)).trans HX1.out,(f4 _ (by omega)).trans HA2.out,h4,by omega⟩
 ·intro X hPI hD
  obtain⟨s,c,hst,x0,x1,x2,xb,xs⟩:=hPI
  have HST:=hid_of hst
  have c0:X.cell? ⟨w.heap.size+1+1,0,none⟩=some (.string s):=(cell_of_block x2 0).trans rfl
  have c1:X.cell? ⟨w.heap.size+1+1,1,none⟩=some (.int .i64 (c:Int)):=(cell_of_block x2 1).trans rfl
  have d0:X.cell? ⟨w.heap.size+1,0,none⟩=some (.string ⟨#[]⟩):=(cell_of_block x1 0).trans rfl
  have d1:X.cell? ⟨w.heap.size+1,1,none⟩=some (.int .i64 0):=(cell_of_block x1 1).trans rfl
  have df:∀ q,X.frozen? ⟨w.heap.size+1,q,none⟩=false:=fun q=>by simp [World.frozen?,x1]
  have l1:w.heap.size+1 < X.heap.size:=block_lt x1
  have l2:w.heap.size+1+1 < X.heap.size:=block_lt x2
  have HX1:=hid_of x1
  have HXB:=hid_of xb
  have HD:=hid_of hD
  clear x0 x1 x2 xb hD hst
  go_wp2_with fail
  exact parts_leave HX1.out HD.out (by omega) HXB.out rfl (by rw [HST.out]; rfl)
end
end Go.Proofs.YtklpiihnbokkkaaGreatDoor
