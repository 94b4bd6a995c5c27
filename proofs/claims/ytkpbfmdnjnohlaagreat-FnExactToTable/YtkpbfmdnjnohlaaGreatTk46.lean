/-
  Texts of the proof, put together.
-/
import Derived.Test.YtkpbfmdnjnohlaaGreatTk44
import Derived.Test.YtkpbfmdnjnohlaaGreatTk45
import Derived.RangeFuncNested
import Derived.RangeFuncBound
import Derived.OwnWalkIn
import Derived.LoopNIn
import Derived.LoopIn
import Derived.Shelf.RegionOpen
namespace Go.Proofs.YtkpbfmdnjnohlaaGreat
section
open Go.RowKit Go.Joins OutMath PutMath RastMath HeadMath ChunkMath
def B1 (w:World) (A:Array Value) (u:World):Prop:=BoxAt u w.heap.size A∧Below w.heap.size w u
theorem B1.start (w:World) (A:Array Value):B1 w A (w.alloc (.cells A 37)):=⟨heap_alloc_new w _,bstart w _⟩
theorem B1.called {w u u':World} {A:Array Value} (h:B1 w A u) (hb:Below u.heap.size u u'):B1 w A u':=⟨h.1.called hb,bnext h.2 hb⟩
def MayPost (p:Pic) (w:World) (e:Ending) (w':World):Prop:=∃ b,e=.returned (.bool b)∧(b=true↔MayR p)∧Below w.heap.size w w'
set_option maxRecDepth 100000 in
set_option maxHeartbeats 1600000 in
theorem implMay (p:Pic) (q:PicA) (w:World) (hP:PngIn w p q) (hZ:PngSz p):
  Calls Tryz.prog 37 #[pngV p q] w (MayPost p w):=by
 have hok:=fun W h=>implPngOk p q W h hZ
 have hto:=fun W h=>implTouchy p q W h hZ.k
 have HP:=hid_of hP
 clear hP hZ
 obtain⟨p0,hp0⟩:∃ p0,p0=p:=⟨_,rfl⟩
 obtain⟨hw,hh,hd,hc',lace,tn,T,cn,C,rw',rh,rc,rd,sn,S,kn,K⟩:=p
 obtain⟨ta,tc,ca,cc,sa,sc,ka,kc⟩:=q
 simp only [pngV] at hok hto ⊢
 have hKC:∀ W,PngIn W p0 ⟨ta,tc,ca,cc,sa,sc,ka,kc⟩→KCame W ka kn K:=fun W h=>by rw [hp0] at h; exact h.k
 have HT0:Hid (TouchyR p0.kn p0.K↔TouchyR kn K):=by rw [hp0]; exact Iff.rfl
 rw[← hp0] at hok HP ⊢
 have hto1:=fun W h=>hto W (hKC W h)
 clear hto hKC hp0
 have H0:Hid (B1 w #[.int .i64 hw,.int .i64 hh,.int .i64 hd,.int .i64 hc',.bool lace,.slice ta tn tc,.slice ca cn cc,.int .i64 rw',.int .i64 rh,.int .i64 rc,.int .i64 rd,.slice sa sn sc,.slice ka kn kc] (w.alloc (.cells #[.int .i64 hw,.int .i64 hh,.int .i64 hd,.int .i64 hc',.bool lace,.slice ta tn tc,.slice ca cn cc,.int .i64 rw',.int .i64 rh,.int .i64 rc,.int .i64 rd,.slice sa sn sc,.slice ka kn kc] 37))):=B1.start w _
 go_enter Tryz.func37,Tryz.ntmps37
 go_wp2_with fail
 refine (hok _ (HP.out.called H0.out.2)).mono ?_
 rintro e w1 ⟨b,rfl,hb,hB⟩
 have H1:=hid_of (H0.out.called hB)
 have HB:=hid_of hb
 clear hB hb H0 hok
 cases b
 ·have HN:Hid (¬ MayR p0):=fun h=>by have:=HB.out.mpr h.1; cases this
  go_wp2_with fail
  go_ret
  exact⟨false,rfl,⟨fun e=>(by cases e),fun h=>absurd h HN.out⟩,H1.out.2⟩
 have HR:=hid_of (HB.out.mp rfl)
 clear HB
 have la:=block_lt H1.out.1
 have a0:=(cell_of_block H1.out.1 0).trans rfl
 have a1:=(cell_of_block H1.out.1 1).trans rfl
 have a2:=(cell_of_block H1.out.1 2).trans rfl
 have a3:=(cell_of_block H1.out.1 3).trans rfl
 have a4:=(cell_of_block H1.out.1 4).trans rfl
 have a5:=(cell_of_block H1.out.1 5).trans rfl
 have a6:=(cell_of_block H1.out.1 6).trans rfl
 have a7:=(cell_of_block H1.out.1 7).trans rfl
 have a8:=(cell_of_block H1.out.1 8).trans rfl
 have a9:=(cell_of_block H1.out.1 9).trans rfl
 have a10:=(cell_of_block H1.out.1 10).trans rfl
 have a11:=(cell_of_block H1.out.1 11).trans rfl
 have a12:=(cell_of_block H1.out.1 12).trans rfl
 go_wp2_with fail
 refine (hto1 _ (HP.out.called H1.out.2)).mono ?_
 rintro e w2 ⟨t,rfl,ht,hB⟩
 have H2:=hid_of (H1.out.called hB)
 have HM:Hid ((!t)=true↔MayR p0):=by
  have hR:=HR.out
  have h0:=HT0.out
  cases t
  ·exact⟨fun _=>⟨hR,fun h=>by have:=ht.mpr (h0.mp h); cases this⟩,fun _=>rfl⟩
  ·exact⟨fun h=>(by cases h),fun h=>absurd (h0.mpr (ht.mp rfl)) h.2⟩
 clear hB ht HR HT0 H1 la a0 a1 a2 a3 a4 a5 a6 a7 a8 a9 a10 a11 a12
 go_wp2_with fail
 go_ret
 exact⟨_,rfl,HM.out,H2.out.2⟩
end
section
open Go.RowKit Go.Shelf
theorem calls_of_marks {P:Program} {f:FuncId} {fn:Func} {c:Code} {args:Array Value} {w:World} {R:Ending→World→Prop} (hf:P.funcs[f]?=some fn) (hb:fn.body=some c)
  (h:c.wp P (bodyPostM Fence.wide 6 P fn R) { tmps:=args ++ Array.replicate (fn.ntmps - args.size) undef,defers:=[] } w):Calls P f args w R:=
 (callsIn_wide (n:=6)).1 (callsIn_of_wp_marks hf hb trivial (wpIn_wide.2 h) rfl)
def TellsNext (gf:Nat) (lb:Array Value) (encs:Nat→Array Value) (N:Nat) (Kp:World→World→Prop) (W:World):Prop:=
 ∀ (l:Nat) (J:Nat→World→Prop) (V:World),Kp W V→(∀ k X n,J k X→J k (X.drewN n))→
  (∀ k X,k < N→J k X→YieldAt Fence.wide 4 Tryz.prog l (encs k) X fun e Y=>e=.returned (.bool true)∧J (k+1) Y∧Kp X Y)→J 0 V→
  CallsIn Fence.wide 5 Tryz.prog gf (#[.func (.yield l) #[] #[]] ++ lb) V fun e Y=>(∃ v,e=.returned v)∧J N Y
def Rec (W X:World) (r:Loop):Prop:=X.heap[W.heap.size+1]?=some (.loop r)∧X.heap[W.heap.size]?=some (.deferred (some []))
theorem Rec.kept {W X Y:World} {r:Loop} (h:Rec W X r) (hk:KeepsFrom W.heap.size X Y):Rec W Y r:=
 ⟨hk.same _ _ (Nat.le_succ _) h.1 rfl,hk.same _ _ (Nat.le_refl _) h.2 rfl⟩
theorem Rec.put {W X:World} {r:Loop} (h:Rec W X r) (r':Loop):Rec W (X.putObj (W.heap.size+1) (.loop r')) r':=
 ⟨World.putObj_heap_same (block_lt h.1),(World.putObj_heap_other (by omega)).trans h.2⟩
theorem wp_range_next {T:Array Value} {g:Operand} {ps:Array Tmp} {assign body:Code} {Q:Exit→Act→World→Prop} {W:World} {gf:Nat} {lb:Array Value} (encs:Nat→Array Value) (N:Nat) (Kp:World→World→Prop)
  (hg:({ tmps:=T,defers:=[] }:Act).eval g=.func (.func gf) #[] lb) (eg:∀ args w,(callFunc gf args).run Tryz.prog w=.ok (.enter gf args) w) (hps:∀ k,(encs k).size=ps.size) (hseq:TellsNext gf lb encs N Kp W)
  (hKt:∀ {A B C:World},Kp A B→Kp B C→Kp A C) (hKp:∀ (X:World) (i:Nat) (o:Obj),W.heap.size≤i→Kp X (X.putObj i o)) (hKa:∀ (X:World) (o:Obj),W.heap.size≤X.heap.size→Kp X (X.alloc o))
  (I:Nat→World→Prop) (hI:OwnFrom W.heap.size I) (hId:∀ k X n,I k X→I k (X.drewN n)) (h0:I 0 W) (a₁:Nat→Act)
  (hassign:∀ (l k:Nat) (X:World) (K:Act→World→Prop),K (a₁ k) X→assign.wpIn (Fence.wide.inRound l) 4 Tryz.prog (Exit.then K (fun _ _ _=>False)) { tmps:=(ps.zip (encs k)).foldl (fun t (p,v)=>t.setIfInBounds p v) T,defers:=[] } X)
  (hbody:∀ (l k:Nat) (X:World),k < N→I k X→body.wpIn (Fence.wide.inRound l) 4 Tryz.prog (fun e _ Y=>e=.normal∧KeepsFrom W.heap.size X Y∧Kp X Y∧I (k+1) Y) (a₁ k) X)
  (hdone:∀ (X:World),I N X→X.heap[W.heap.size]?=some (.deferred (some []))→Q .normal { tmps:=T,defers:=[{ target:=.collected W.heap.size,args:=#[] }] } X):
  (Code.rangeFunc g ps assign body).wp Tryz.prog Q { tmps:=T,defers:=[] } W:=by
 refine (wpIn_wide (n:=6)).1 (wpIn_rangeFunc fun fn hfn=>?_)
 obtain⟨rc,hrc⟩:∃ rc:LoopState→Loop,rc=fun st=>{ state:=st,pending:=none,fn:=fn,tmps:=T,params:=ps,assign:=assign,body:=body,defers:=W.heap.size }:=⟨_,rfl⟩
 obtain⟨V,hV⟩:∃ V,V=(W.alloc (.deferred (some []))).alloc (.loop (rc .ready)):=⟨_,rfl⟩
 have hs1:(W.alloc (.deferred (some []))).heap.size=W.heap.size+1:=by simp
 have hRec:Rec W V (rc .ready):=by
  rw[hV]
  refine⟨?_,?_⟩
  ·have:=World.alloc_heap_new (W.alloc (.deferred (some []))) (.loop (rc .ready))
   rw[hs1] at this
   exact this
  ·exact ((bstart (W.alloc (.deferred (some []))) _).block _ (by omega)).trans (World.alloc_heap_new W _)
 have hIV:I 0 V:=by
  rw[hV]
  exact hI.alloc _ (hI.alloc _ h0)
 have hKV:Kp W V:=by
  rw[hV]
  exact hKt (hKa W _ (Nat.le_refl _)) (hKa _ _ (by omega))
 refine⟨W.heap.size+1,[{ target:=.collected W.heap.size,args:=#[] }],V,{ target:=.fn (.func gf) lb,args:=#[.func (.yield (W.heap.size+1)) #[] #[]] },V,gf,#[.func (.yield (W.heap.size+1)) #[] #[]] ++ lb,V,?_,?_,?_,?_,fun _=>by omega,?_⟩
 ·rw[hV,hrc]
  exact run_enterLoop_outer _ _ _ _ _
 ·simp only [resolve,hg]
  simp[go_sem]
 ·exact fun _ _=>trivial
 ·simp[invoke,go_sem,eg]
 ·refine (hseq (W.heap.size+1) (fun k X=>I k X∧Rec W X (rc .ready)) V hKV (fun k X n h=>⟨hId k X n h.1,h.2⟩) ?_ ⟨hIV,hRec⟩).mono ?_
  ·rintro k X hk ⟨hi,hr⟩
   have hy:=run_yield (P:=Tryz.prog) (args:=encs k) hr.1 (by rw [hrc]; exact hps k)
   rw[hrc] at hy
   refine⟨fn,_,assign,body,hy,roundIn_of_wpIn hfn (hassign _ k X _ ⟨_,run_beginRound hr.1 (by rw [hrc]),?_⟩)⟩
   have hb:Rec W (X.putObj (W.heap.size+1) (.loop { rc .ready with state:=.busy })) { rc .ready with state:=.busy }:=hr.put _
   refine wpIn_mono (hbody _ k _ hk (hI.putObj _ hi (Nat.le_succ _) hr.1 rfl)) ?_
   rintro e a3 Y ⟨rfl,h1,h2,h3⟩
   have hy3:=hb.kept h1
   have he:=run_endRound (P:=Tryz.prog) none hy3.1
   refine⟨_,_,he,rfl,⟨hI.putObj _ h3 (Nat.le_succ _) hy3.1 rfl,?_⟩,hKt (hKt (hKp X _ _ (Nat.le_succ _)) h2) (hKp Y _ _ (Nat.le_succ _))⟩
   have hz:=hy3.put { rc .ready with state:=.ready,pending:=none }
   rw[hrc] at hz ⊢
   exact hz
  ·rintro e Y ⟨⟨v,rfl⟩,hi,hr⟩
   have he:=run_endLoop (P:=Tryz.prog) hr.1 (by rw [hrc]; simp)
   have hp:(rc .ready).pending=none:=by rw [hrc]
   rw[hp] at he
   exact⟨none,_,he,hdone _ (hI.putObj _ hi (Nat.le_succ _) hr.1 rfl) ((World.putObj_heap_other (by omega)).trans hr.2)⟩
end
section
open Go.RowKit Go.Shelf
attribute [local go_sem] Oper.semAt_some
def BothI (a b:Nat) (W W':World):Prop:=W'.heap[a]?=W.heap[a]?∧W'.heap[b]?=W.heap[b]?
def chunkI (g off n k:Nat):Array Value:=#[.slice (some ⟨g,off+n * k,none⟩) n n]
theorem chunkI_any (a:Option Addr) (len cap n:Nat) (w:World) (hn:1≤n):
  Calls Tryz.prog 76 #[.slice a len cap,.int .i64 (n:Int)] w fun e w'=>e=.returned (.func (.func 107) #[] #[.pointer (some ⟨w.heap.size,0,none⟩),.pointer (some ⟨w.heap.size+1,0,none⟩)])∧w'=(w.alloc (.cells #[.slice a len cap] 25)).alloc (.cells #[.int .i64 (n:Int)] 3):=by
 have d:decide ((n:Int) < 1)=false:=decide_eq_false (by omega)
 go_enter Tryz.func76,Tryz.ntmps76
 go_wp2_with fail
 go_ret
 exact⟨rfl,rfl⟩
set_option maxRecDepth 100000 in
set_option maxHeartbeats 2000000 in
theorem chunkI_tells (Bs Bn g off n m cap:Nat) (hn:1≤n) (hn4:n≤4) (hm:m≤1024) (hcap:n * m≤cap) (W:World) (hBs:W.cell? ⟨Bs,0,none⟩=some (.slice (some ⟨g,off,none⟩) (n * m) cap)) (hBn:W.cell? ⟨Bn,0,none⟩=some (.int .i64 (n:Int))):
  TellsNext 107 #[.pointer (some ⟨Bs,0,none⟩),.pointer (some ⟨Bn,0,none⟩)] (chunkI g off n) m (BothI Bs Bn) W:=by
 intro l J V hWV hJd hY h0
 have HY:=hid_of hY
 have HJD:=hid_of hJd
 have HWV:=hid_of hWV
 have hnm:n * m≤4096:=by
  have:=Nat.mul_le_mul hn4 hm
  omega
 obtain⟨L,hL⟩:∃ L,L=n * m:=⟨_,rfl⟩
 rw[← hL] at hBs hcap hnm
 have HL:=hid_of hL
 clear hY hJd hWV hL
 refine callsIn_of_wp Tryz.func107 rfl trivial ?_ rfl
 simp only [Tryz.ntmps107,List.size_toArray,List.length_cons,List.length_nil,Nat.reduceAdd,Nat.reduceSub,Array.replicate_succ,Array.replicate_zero,List.push_toArray,List.append_toArray,List.nil_append,List.cons_append]
 gi_wp2
 gi_loopw [4] (fun i wr=>∃ k a:Nat,k≤m∧Hid (a=n * k)∧i=.int .i64 (a:Int)∧Hid (J k wr∧BothI Bs Bn W wr))
  (fun i _=>(L+60 - intOf i).toNat)
 case atStart=>exact⟨0,0,Nat.zero_le _,(Nat.mul_zero n).symm,rfl,h0,HWV.out⟩
 case round=>
  obtain⟨k,a,hk,ha,rfl,hS⟩:=hrel
  have c1:wr.cell? ⟨Bs,0,none⟩=some (.slice (some ⟨g,off,none⟩) L cap):=(heap_cell hS.out.2.1 0).trans hBs
  have c2:wr.cell? ⟨Bn,0,none⟩=some (.int .i64 (n:Int)):=(heap_cell hS.out.2.2 0).trans hBn
  by_cases hlt:k < m
  ·have hle:a+n≤L:=by
    have h1:=ha.out
    have h2:=HL.out
    have h3:=Nat.mul_le_mul_left n (show k+1≤m from hlt)
    rw[Nat.mul_succ] at h3
    omega
   have d1:decide ((a:Int) < (L:Int))=true:=decide_eq_true (by omega)
   have h1:(0:Int)≤(a:Int):=by omega
   have h2:(a:Int)≤(L:Int):=by omega
   have h3:(a:Int)≤(cap:Int):=by omega
   have q2:decide (((L - a:Nat):Int) < (n:Int))=false:=decide_eq_false (by omega)
   have q1:¬ ((L - a:Nat):Int) < (n:Int):=by omega
   have q3:min (n:Int) ((L - a:Nat):Int)=(n:Int):=by omega
   have q4:IntKind.i64.wrap ((a:Int)+(n:Int))=((a+n:Nat):Int):=by rw [IntKind.wrap_i64]; omega
   have h4:(a:Int)≤((a+n:Nat):Int):=by omega
   have h5:((a+n:Nat):Int)≤(cap:Int):=by omega
   have h6:(0:Int)≤((a+n:Nat):Int):=by omega
   gi_wp2
   gi_region
   all_goals
    obtain⟨fn,tmps,assign,body,hy,hR⟩:=HY.out k wr.drew (by omega) (HJD.out k wr 1 hS.out.1)
    rw[show chunkI g off n k=#[.slice (some ⟨g,off+a,none⟩) n n] from by
     unfold chunkI
     rw[← ha.out]] at hy
    gi_wp2
    refine hR.mono ?_
    rintro e W3 ⟨rfl,hJ3,hk3⟩
    have c4:W3.cell? ⟨Bn,0,none⟩=some (.int .i64 (n:Int)):=(heap_cell hk3.2 0).trans c2
    have H3:Hid (J (k+1) W3∧BothI Bs Bn W W3):=⟨hJ3,hk3.1.trans hS.out.2.1,hk3.2.trans hS.out.2.2⟩
    have HA:Hid (a+n=n * (k+1)):=by
     show _=_
     rw[Nat.mul_succ,← ha.out]
    clear hJ3 hk3
    gi_wp2
    go_roundw
    case rel=>exact⟨k+1,a+n,by omega,HA,by go_num,H3⟩
    case measure=>simp [intOf]; omega
  ·have hkm:k=m:=by omega
   have haL:¬ a < L:=by have h1:=ha.out; have h2:=HL.out; rw [hkm] at h1; omega
   have d1:decide ((a:Int) < (L:Int))=false:=decide_eq_false (by omega)
   have d2:decide (a < L)=false:=decide_eq_false haL
   have HKM:=hid_of hkm
   clear hkm haL hlt
   gi_wp2
   go_end0
   exact⟨⟨_,rfl⟩,HKM.out ▸ hS.out.1⟩
where
 heap_cell {W W':World} {g:Nat} (h:W'.heap[g]?=W.heap[g]?) (j:Nat):W'.cell? ⟨g,j,none⟩=W.cell? ⟨g,j,none⟩:=by
  unfold World.cell?
  rw[h]
end
end Go.Proofs.YtkpbfmdnjnohlaaGreat
