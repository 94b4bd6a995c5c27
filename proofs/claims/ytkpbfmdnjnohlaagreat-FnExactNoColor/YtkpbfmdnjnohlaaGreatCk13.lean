/-
  Texts of the proof, put together.
-/
import Derived.Test.YtkpbfmdnjnohlaaGreatCk12
import Derived.RangeFuncNested
import Derived.RangeFuncBound
import Derived.OwnWalkIn
import Derived.LoopNIn
import Derived.LoopIn
import Derived.Shelf.RegionOpen
namespace Go.Proofs.YtkpbfmdnjnohlaaGreat
section
open Go.RowKit Go.Joins HeadMath ChunkMath
def noPng:Value:=.agg #[.int .i64 0,.int .i64 0,.int .i64 0,.int .i64 0,.bool false,.slice none 0 0,.slice none 0 0,.int .i64 0,.int .i64 0,.int .i64 0,.int .i64 0,.slice none 0 0,.slice none 0 0]
def noPic:Pic:=⟨0,0,0,0,false,0,fun _=>(0,0,0),0,fun _=>0,0,0,0,0,0,fun _=>0,0,fun _=>(ByteArray.empty,ByteArray.empty)⟩
def noPicA:PicA:=⟨none,0,none,0,none,0,none,0⟩
def LessPost (c:Prop) (r:Pic) (w:World) (e:Ending) (w':World):Prop:=(¬ c∧e=.returned (.tuple #[noPng,.bool false])∧Below w.heap.size w w')∨(c∧∃ q,e=.returned (.tuple #[pngV r q,.bool true])∧PngSL w' w.heap.size r q∧Below w.heap.size w w')
theorem noPic_sz:PngSz noPic:=⟨Nat.zero_le _,Nat.zero_le _,Nat.zero_le _,Nat.zero_le _,fun i hi=>absurd hi (Nat.not_lt_zero i)⟩
theorem noPic_sl (w:World) (b:Nat):PngSL w b noPic noPicA:=⟨.inl rfl,.inl rfl,.inl rfl,.inl rfl,.inl rfl,Nat.le_refl _,by show 0≤maxLen; omega⟩
theorem less_one (c:Prop) (r:Pic) (hr:c→PngSz r):∃ (m:Pic) (b:Bool),PngSz m∧∀ w e w',LessPost c r w e w'→∃ q,e=.returned (.tuple #[pngV m q,.bool b])∧PngSL w' w.heap.size m q∧Below w.heap.size w w':=by
 by_cases hc:c
 ·refine⟨r,true,hr hc,fun w e w' h=>?_⟩
  rcases h with ⟨h,_⟩ | ⟨_,h⟩
  ·exact absurd hc h
  ·exact h
 ·refine⟨noPic,false,noPic_sz,fun w e w' h=>?_⟩
  rcases h with ⟨_,h1,h2⟩ | ⟨h,_⟩
  ·exact⟨noPicA,h1,noPic_sl _ _,h2⟩
  ·exact absurd h hc
theorem less_congr {c c':Prop} {r r':Pic} (hc:c↔c') (hr:c→r=r') {w:World} {e:Ending} {w':World} (h:LessPost c r w e w'):LessPost c' r' w e w':=by
 rcases h with ⟨h,k⟩ | ⟨h,q,k⟩
 ·exact .inl ⟨fun x=>h (hc.mpr x),k⟩
 ·exact .inr ⟨hc.mp h,q,by rw [← hr h]; exact k⟩
theorem sl_apart {w1 w2:World} {b n n' c c':Nat} {a a':Option Addr} {f f':Nat→Int} (h:SL w1 b a n c f) (h':SL w2 w1.heap.size a' n' c' f'):n'=0∨n=0∨a'≠a:=by
 rcases h' with h' | ⟨g',e',h'⟩
 ·exact .inl h'
 rcases h with h | ⟨g,e,h⟩
 ·exact .inr (.inl h)
 refine .inr (.inr fun q=>?_)
 rw[e,e'] at q
 cases q
 have:=h.lt
 have:=h'.base_le
 omega
theorem SL.put {w:World} {b X n c:Nat} {O:Array Value} {a:Option Addr} {f:Nat→Int} (h:SL w b a n c f) (hX:BoxAt w X O) (k:Nat) (v:Value):SL (w.setCell ⟨X,k,none⟩ v) b a n c f:=by
 rcases h with h | ⟨g,e,h⟩
 ·exact .inl h
 ·refine .inr ⟨g,e,h.keep (Below.heap_setCell _ _ _ _ fun q=>?_)⟩
  obtain⟨cap,cur,fz,_,hb,hh,_⟩:=id h
  have q':g=X:=q
  rw[q',hX] at hh
  cases hh
theorem RgbSL.put {w:World} {b X n:Nat} {O:Array Value} {a:Option Addr} {f:Nat→Rgb3} (h:RgbSL w b a n f) (hX:BoxAt w X O) (k:Nat) (v:Value):RgbSL (w.setCell ⟨X,k,none⟩ v) b a n f:=by
 rcases h with h | ⟨g,e,h⟩
 ·exact .inl h
 ·refine .inr ⟨g,e,h.keep (Below.heap_setCell _ _ _ _ fun q=>?_)⟩
  obtain⟨hb,cur,hh,_⟩:=id h
  have q':g=X:=q
  rw[q',hX] at hh
  cases hh
theorem PngSL.put {w:World} {b X:Nat} {O:Array Value} {p:Pic} {q:PicA} (h:PngSL w b p q) (hX:BoxAt w X O) (k:Nat) (v:Value):PngSL (w.setCell ⟨X,k,none⟩ v) b p q:=⟨h.t.put hX k v,h.c.put hX k v,h.s.put hX k v,h.k.put hX k v,h.ne,h.capped⟩
structure WP (w:World) (A:Array Value) (r:Pic) (q:PicA) (u:World):Prop where
 m:MoP w A u
 l:PngSL u w.heap.size r q
theorem WP.put {w u:World} {A:Array Value} {r:Pic} {q:PicA} (h:WP w A r q u) (k:Nat) (v:Value):WP w A r q (u.setCell ⟨w.heap.size+1,k,none⟩ v):=by
 obtain⟨Z,h2,_⟩:=h.m.2.1
 exact⟨h.m.put k v,PngSL.put (O:=Z) h.l h2 k v⟩
theorem WP.called {w u u':World} {A:Array Value} {r:Pic} {q:PicA} (h:WP w A r q u) (hb:Below u.heap.size u u'):WP w A r q u':=⟨h.m.called hb,h.l.called hb⟩
theorem WP.stored {w u:World} {A:Array Value} {r:Pic} {q:PicA} (h:WP w A r q u) (v0 v1 v2 v3 v4 v5 v6 v7 v8 v9 v10 v11 v12:Value):PngSL (((((((((((((u.setCell ⟨w.heap.size+1,0,none⟩ v0).setCell ⟨w.heap.size+1,1,none⟩ v1).setCell ⟨w.heap.size+1,2,none⟩ v2).setCell ⟨w.heap.size+1,3,none⟩ v3).setCell ⟨w.heap.size+1,4,none⟩ v4).setCell ⟨w.heap.size+1,5,none⟩ v5).setCell ⟨w.heap.size+1,6,none⟩ v6).setCell ⟨w.heap.size+1,7,none⟩ v7).setCell ⟨w.heap.size+1,8,none⟩ v8).setCell ⟨w.heap.size+1,9,none⟩ v9).setCell ⟨w.heap.size+1,10,none⟩ v10).setCell ⟨w.heap.size+1,11,none⟩ v11).setCell ⟨w.heap.size+1,12,none⟩ v12) w.heap.size r q∧Below w.heap.size w (((((((((((((u.setCell ⟨w.heap.size+1,0,none⟩ v0).setCell ⟨w.heap.size+1,1,none⟩ v1).setCell ⟨w.heap.size+1,2,none⟩ v2).setCell ⟨w.heap.size+1,3,none⟩ v3).setCell ⟨w.heap.size+1,4,none⟩ v4).setCell ⟨w.heap.size+1,5,none⟩ v5).setCell ⟨w.heap.size+1,6,none⟩ v6).setCell ⟨w.heap.size+1,7,none⟩ v7).setCell ⟨w.heap.size+1,8,none⟩ v8).setCell ⟨w.heap.size+1,9,none⟩ v9).setCell ⟨w.heap.size+1,10,none⟩ v10).setCell ⟨w.heap.size+1,11,none⟩ v11).setCell ⟨w.heap.size+1,12,none⟩ v12):=by
 have k:=((((((((((((h.put 0 v0).put 1 v1).put 2 v2).put 3 v3).put 4 v4).put 5 v5).put 6 v6).put 7 v7).put 8 v8).put 9 v9).put 10 v10).put 11 v11).put 12 v12
 exact⟨k.l,k.m.2.2⟩
theorem MoP.stored {w u:World} {A:Array Value} (h:MoP w A u) (v0 v1 v2 v3 v4 v5 v6 v7 v8 v9 v10 v11 v12:Value):Below w.heap.size w (((((((((((((u.setCell ⟨w.heap.size+1,0,none⟩ v0).setCell ⟨w.heap.size+1,1,none⟩ v1).setCell ⟨w.heap.size+1,2,none⟩ v2).setCell ⟨w.heap.size+1,3,none⟩ v3).setCell ⟨w.heap.size+1,4,none⟩ v4).setCell ⟨w.heap.size+1,5,none⟩ v5).setCell ⟨w.heap.size+1,6,none⟩ v6).setCell ⟨w.heap.size+1,7,none⟩ v7).setCell ⟨w.heap.size+1,8,none⟩ v8).setCell ⟨w.heap.size+1,9,none⟩ v9).setCell ⟨w.heap.size+1,10,none⟩ v10).setCell ⟨w.heap.size+1,11,none⟩ v11).setCell ⟨w.heap.size+1,12,none⟩ v12):=(((((((((((((h.put 0 v0).put 1 v1).put 2 v2).put 3 v3).put 4 v4).put 5 v5).put 6 v6).put 7 v7).put 8 v8).put 9 v9).put 10 v10).put 11 v11).put 12 v12).2.2
end
section
open Go.RowKit OutMath PutMath RastMath HeadMath ChunkMath
def chanN (c:Int):Nat:=(chan c).toNat
def pixN (p:Pic):Nat:=(p.hw * p.hh).toNat
end
section
open Go.RowKit
def tkF (n s o:Nat) (f:Nat→Int) (j:Nat):Int:=f (n * (j / o)+s+j % o)
theorem tkF_at (n s o:Nat) (f:Nat→Int) (k i:Nat) (hi:i < o):tkF n s o f (o * k+i)=f (n * k+s+i):=by
 unfold tkF
 rw[Nat.mul_add_div (by omega),Nat.div_eq_of_lt hi,Nat.mul_add_mod,Nat.mod_eq_of_lt hi,Nat.add_zero]
theorem fints_add (F:Nat→Int) (a b:Nat):fints F (a+b)=fints F a ++ fints (fun i=>F (a+i)) b:=by
 unfold fints
 rw[List.range_add,List.map_append,List.map_map]
 rfl
theorem fints_tk (n s o:Nat) (f:Nat→Int) (k:Nat):fints (tkF n s o f) (o * (k+1))=fints (tkF n s o f) (o * k) ++ fints (fun i=>f (n * k+s+i)) o:=by
 rw[Nat.mul_succ,fints_add]
 congr 1
 exact fints_congr fun i hi=>tkF_at n s o f k i hi
end
section
open Go.RowKit OutMath PutMath RastMath HeadMath ChunkMath CrcMath
theorem png_n {p:Pic} (h:PngR p):p.sn=chanN p.hc * pixN p∧1≤pixN p∧pixN p≤576:=by
 obtain⟨⟨⟨_,_,_⟩,⟨⟨a1,a2⟩,⟨b1,b2⟩,_,hn,hS⟩,e1,e2,e3,e4⟩,_⟩:=h
 have h1:1≤p.rw * p.rh:=by
  have:=Int.mul_le_mul a1 b1 (by omega) (by omega)
  omega
 have h2:p.rw * p.rh≤24 * 24:=Int.mul_le_mul a2 b2 (by omega) (by omega)
 have h3:=chan_range p.rc
 unfold pixN chanN
 rw[← e1,← e2,← e3]
 refine⟨?_,by omega,by omega⟩
 have:((p.sn:Nat):Int)=(((chan p.rc).toNat * (p.rw * p.rh).toNat:Nat):Int):=by
  rw[hn,Int.natCast_mul,Int.toNat_of_nonneg h3.1,Int.toNat_of_nonneg (by omega),Int.mul_comm]
 exact Int.ofNat.inj this
end
section
open Go.RowKit Go.Shelf
theorem calls_of_marks {P:Program} {f:FuncId} {fn:Func} {c:Code} {args:Array Value} {w:World} {R:Ending→World→Prop} (hf:P.funcs[f]?=some fn) (hb:fn.body=some c)
  (h:c.wp P (bodyPostM Fence.wide 6 P fn R) { tmps:=args ++ Array.replicate (fn.ntmps - args.size) undef,defers:=[] } w):Calls P f args w R:=
 (callsIn_wide (n:=6)).1 (callsIn_of_wp_marks hf hb trivial (wpIn_wide.2 h) rfl)
def Rec (W X:World) (r:Loop):Prop:=X.heap[W.heap.size+1]?=some (.loop r)∧X.heap[W.heap.size]?=some (.deferred (some []))
theorem Rec.kept {W X Y:World} {r:Loop} (h:Rec W X r) (hk:KeepsFrom W.heap.size X Y):Rec W Y r:=
 ⟨hk.same _ _ (Nat.le_succ _) h.1 rfl,hk.same _ _ (Nat.le_refl _) h.2 rfl⟩
theorem Rec.put {W X:World} {r:Loop} (h:Rec W X r) (r':Loop):Rec W (X.putObj (W.heap.size+1) (.loop r')) r':=
 ⟨World.putObj_heap_same (block_lt h.1),(World.putObj_heap_other (by omega)).trans h.2⟩
end
section
open Go.RowKit Go.Shelf
attribute [local go_sem] Oper.semAt_some
def BothI (a b:Nat) (W W':World):Prop:=W'.heap[a]?=W.heap[a]?∧W'.heap[b]?=W.heap[b]?
def chunkI (g off n k:Nat):Array Value:=#[.slice (some ⟨g,off+n * k,none⟩) n n]
theorem chunkI_any (a:Option Addr) (len cap n:Nat) (w:World) (hn:1≤n):
  Calls Tryz.prog 76 #[.slice a len cap,.int .i64 (n:Int)] w fun e w'=>e=.returned (.func (.func 107) #[] #[.pointer (some ⟨w.heap.size,0,none⟩),.pointer (some ⟨w.heap.size+1,0,none⟩)])∧w'=(w.alloc (.cells #[.slice a len cap] 25)).alloc (.cells #[.int .i64 (n:Int)] 3):=by
 have d:decide ((n:Int) < 1)=false:=decide_eq_false (by omega)
 go_enter Tryz.func76,Tryz.ntmps76
 go_wp2_with fail
 go_ret
 exact⟨rfl,rfl⟩
end
section
open Go.RowKit Go.Shelf
def TellsEarly (gf:Nat) (lb:Array Value) (encs:Nat→Array Value) (N:Nat) (Kp:World→World→Prop) (W:World):Prop:=
 ∀ (l:Nat) (J:Nat→World→Prop) (Jx:World→Prop) (V:World),Kp W V→(∀ k X n,J k X→J k (X.drewN n))→(∀ X n,Jx X→Jx (X.drewN n))→
  (∀ k X,k < N→J k X→YieldAt Fence.wide 4 Tryz.prog l (encs k) X fun e Y=>(e=.returned (.bool true)∧J (k+1) Y∧Kp X Y)∨(e=.returned (.bool false)∧Jx Y))→J 0 V→
  CallsIn Fence.wide 5 Tryz.prog gf (#[.func (.yield l) #[] #[]] ++ lb) V fun e Y=>(∃ v,e=.returned v)∧(J N Y∨Jx Y)
theorem wp_range_early {T:Array Value} {g:Operand} {ps:Array Tmp} {assign body:Code} {Q:Exit→Act→World→Prop} {W:World} {gf:Nat} {lb:Array Value} (encs:Nat→Array Value) (N:Nat) (Kp:World→World→Prop)
  (hg:({ tmps:=T,defers:=[] }:Act).eval g=.func (.func gf) #[] lb) (eg:∀ args w,(callFunc gf args).run Tryz.prog w=.ok (.enter gf args) w) (hps:∀ k,(encs k).size=ps.size) (hseq:TellsEarly gf lb encs N Kp W)
  (hKt:∀ {A B C:World},Kp A B→Kp B C→Kp A C) (hKp:∀ (X:World) (i:Nat) (o:Obj),W.heap.size≤i→Kp X (X.putObj i o)) (hKa:∀ (X:World) (o:Obj),W.heap.size≤X.heap.size→Kp X (X.alloc o))
  (I:Nat→World→Prop) (hI:OwnFrom W.heap.size I) (hId:∀ k X n,I k X→I k (X.drewN n)) (h0:I 0 W) (Ix:World→Prop) (hIx:OwnFrom W.heap.size fun (_:Nat) X=>Ix X) (hIxd:∀ X n,Ix X→Ix (X.drewN n)) (a₁:Nat→Act)
  (hassign:∀ (l k:Nat) (X:World) (K:Act→World→Prop),K (a₁ k) X→assign.wpIn (Fence.wide.inRound l) 4 Tryz.prog (Exit.then K (fun _ _ _=>False)) { tmps:=(ps.zip (encs k)).foldl (fun t (p,v)=>t.setIfInBounds p v) T,defers:=[] } X)
  (hbody:∀ (l k:Nat) (X:World),k < N→I k X→body.wpIn (Fence.wide.inRound l) 4 Tryz.prog (fun e _ Y=>(e=.normal∧KeepsFrom W.heap.size X Y∧Kp X Y∧I (k+1) Y)∨(e=.ret∧KeepsFrom W.heap.size X Y∧Ix Y)) (a₁ k) X)
  (hdone:∀ (X:World),I N X→X.heap[W.heap.size]?=some (.deferred (some []))→Q .normal { tmps:=T,defers:=[{ target:=.collected W.heap.size,args:=#[] }] } X)
  (hstop:∀ (X:World),Ix X→X.heap[W.heap.size]?=some (.deferred (some []))→Code.ret.wp Tryz.prog Q { tmps:=T,defers:=[{ target:=.collected W.heap.size,args:=#[] }] } X):
  (Code.rangeFunc g ps assign body).wp Tryz.prog Q { tmps:=T,defers:=[] } W:=by
 refine (wpIn_wide (n:=6)).1 (wpIn_rangeFunc fun fn hfn=>?_)
 obtain⟨rc,hrc⟩:∃ rc:LoopState→Loop,rc=fun st=>{ state:=st,pending:=none,fn:=fn,tmps:=T,params:=ps,assign:=assign,body:=body,defers:=W.heap.size }:=⟨_,rfl⟩
 obtain⟨V,hV⟩:∃ V,V=(W.alloc (.deferred (some []))).alloc (.loop (rc .ready)):=⟨_,rfl⟩
 have hs1:(W.alloc (.deferred (some []))).heap.size=W.heap.size+1:=by simp
 have hRec:Rec W V (rc .ready):=by
  rw[hV]
  refine⟨?_,?_⟩
  ·have:=World.alloc_heap_new (W.alloc (.deferred (some []))) (.loop (rc .ready))
   rw[hs1] at this
   exact this
  ·exact ((bstart (W.alloc (.deferred (some []))) _).block _ (by omega)).trans (World.alloc_heap_new W _)
 have hIV:I 0 V:=by
  rw[hV]
  exact hI.alloc _ (hI.alloc _ h0)
 have hKV:Kp W V:=by
  rw[hV]
  exact hKt (hKa W _ (Nat.le_refl _)) (hKa _ _ (by omega))
 refine⟨W.heap.size+1,[{ target:=.collected W.heap.size,args:=#[] }],V,{ target:=.fn (.func gf) lb,args:=#[.func (.yield (W.heap.size+1)) #[] #[]] },V,gf,#[.func (.yield (W.heap.size+1)) #[] #[]] ++ lb,V,?_,?_,?_,?_,fun _=>by omega,?_⟩
 ·rw[hV,hrc]
  exact run_enterLoop_outer _ _ _ _ _
 ·simp only [resolve,hg]
  simp[go_sem]
 ·exact fun _ _=>trivial
 ·simp[invoke,go_sem,eg]
 ·refine (hseq (W.heap.size+1) (fun k X=>I k X∧Rec W X (rc .ready)) (fun X=>Ix X∧Rec W X { rc .done with pending:=some .ret }) V hKV (fun k X n h=>⟨hId k X n h.1,h.2⟩) (fun X n h=>⟨hIxd X n h.1,h.2⟩) ?_ ⟨hIV,hRec⟩).mono ?_
  ·rintro k X hk ⟨hi,hr⟩
   have hy:=run_yield (P:=Tryz.prog) (args:=encs k) hr.1 (by rw [hrc]; exact hps k)
   rw[hrc] at hy
   refine⟨fn,_,assign,body,hy,roundIn_of_wpIn hfn (hassign _ k X _ ⟨_,run_beginRound hr.1 (by rw [hrc]),?_⟩)⟩
   have hb:Rec W (X.putObj (W.heap.size+1) (.loop { rc .ready with state:=.busy })) { rc .ready with state:=.busy }:=hr.put _
   refine wpIn_mono (hbody _ k _ hk (hI.putObj _ hi (Nat.le_succ _) hr.1 rfl)) ?_
   rintro e a3 Y (⟨rfl,h1,h2,h3⟩ | ⟨rfl,h1,h3⟩)
   rotate_left
   ·have hy3:=hb.kept h1
    have he:=run_endRound (P:=Tryz.prog) (some .ret) hy3.1
    refine⟨_,_,he,.inr ⟨rfl,hIx.putObj (s:=(0:Nat)) _ h3 (Nat.le_succ _) hy3.1 rfl,?_⟩⟩
    have hz:=hy3.put { rc .done with state:=.done,pending:=some .ret }
    rw[hrc] at hz ⊢
    exact hz
   have hy3:=hb.kept h1
   have he:=run_endRound (P:=Tryz.prog) none hy3.1
   refine⟨_,_,he,.inl ⟨rfl,⟨hI.putObj _ h3 (Nat.le_succ _) hy3.1 rfl,?_⟩,hKt (hKt (hKp X _ _ (Nat.le_succ _)) h2) (hKp Y _ _ (Nat.le_succ _))⟩⟩
   have hz:=hy3.put { rc .ready with state:=.ready,pending:=none }
   rw[hrc] at hz ⊢
   exact hz
  ·rintro e Y ⟨⟨v,rfl⟩,(⟨hi,hr⟩ | ⟨hi,hr⟩)⟩
   rotate_left
   ·have he:=run_endLoop (P:=Tryz.prog) hr.1 (by rw [hrc]; simp)
    refine⟨some .ret,_,he,?_⟩
    exact wpIn_wide.2 (hstop _ (hIx.putObj (s:=(0:Nat)) _ hi (Nat.le_succ _) hr.1 rfl) ((World.putObj_heap_other (by omega)).trans hr.2))
   have he:=run_endLoop (P:=Tryz.prog) hr.1 (by rw [hrc]; simp)
   have hp:(rc .ready).pending=none:=by rw [hrc]
   rw[hp] at he
   exact⟨none,_,he,hdone _ (hI.putObj _ hi (Nat.le_succ _) hr.1 rfl) ((World.putObj_heap_other (by omega)).trans hr.2)⟩
end
end Go.Proofs.YtkpbfmdnjnohlaaGreat
