/-
  Texts of the proof, put together.
-/
import Derived.Test.YtkpbfmdnjnohlaaGreatRd33
namespace Go.Proofs.YtkpbfmdnjnohlaaGreat
open Go.RowKit Go.Joins Go.Shelf
attribute [local go_sem] Oper.semAt_some
structure GrB (w:World) (v:Value) (X:World):Prop where
 b1:X.heap[w.heap.size]?=some (.cells #[.slice none 0 0] 25 (0,0))
 b2:X.heap[w.heap.size+1]?=some (.cells #[.bool false] 4 (0,0))
 b3:X.heap[w.heap.size+1+1]?=some (.cells #[v] 25 (0,0))
 bl:Below w.heap.size w X
 sz:w.heap.size+3≤X.heap.size
theorem GrB.called {w X Y:World} {v:Value} (h:GrB w v X) (hb:Below X.heap.size X Y):GrB w v Y:=⟨(hb.block _ (block_lt h.b1)).trans h.b1,(hb.block _ (block_lt h.b2)).trans h.b2,(hb.block _ (block_lt h.b3)).trans h.b3,bnext h.bl hb,Nat.le_trans h.sz hb.size⟩
theorem GrB.start (w:World):GrB w (.slice none 0 0) (((w.alloc (.cells #[.slice none 0 0] 25)).alloc (.cells #[.bool false] 4)).alloc (.cells #[.slice none 0 0] 25)):=by
 refine⟨?_,?_,?_,bal (bal (bstart _ _) _) _,by simp⟩
 ·show (((w.heap.push _).push _).push _)[w.heap.size]?=_
  rw[Array.getElem?_push,if_neg (by simp; omega),Array.getElem?_push,if_neg (by simp),Array.getElem?_push,if_pos (by simp)]
 ·show (((w.heap.push _).push _).push _)[w.heap.size+1]?=_
  rw[Array.getElem?_push,if_neg (by simp),Array.getElem?_push,if_pos (by simp)]
 ·show (((w.heap.push _).push _).push _)[w.heap.size+1+1]?=_
  rw[Array.getElem?_push,if_pos (by simp)]
theorem GrB.again {w u:World} {v:Value} (h:GrB w v u):GrB w v ((u.setCell ⟨w.heap.size,0,none⟩ (.slice none 0 0)).setCell ⟨w.heap.size+1,0,none⟩ (.bool false)):=by
 refine⟨?_,?_,?_,(h.bl.setCell (p:=⟨w.heap.size,0,none⟩) (by simp) _).setCell (p:=⟨w.heap.size+1,0,none⟩) (by simp) _,by simpa using h.sz⟩
 ·rw[Below.heap_setCell _ _ _ _ (by show w.heap.size≠w.heap.size+1; omega)]; simp [World.setCell,Array.getElem?_modify,h.b1]
 ·have q:(u.setCell ⟨w.heap.size,0,none⟩ (.slice none 0 0)).heap[w.heap.size+1]?=some (.cells #[.bool false] 4 (0,0)):=by rw [Below.heap_setCell _ _ _ _ (by show w.heap.size+1≠w.heap.size; omega)]; exact h.b2
  generalize u.setCell ⟨w.heap.size,0,none⟩ (.slice none 0 0)=u1 at q ⊢
  simp[World.setCell,Array.getElem?_modify,q]
 ·rw[Below.heap_setCell _ _ _ _ (by show w.heap.size+1+1≠w.heap.size+1; omega),Below.heap_setCell _ _ _ _ (by show w.heap.size+1+1≠w.heap.size; omega)]; exact h.b3
def GryR (n:Nat) (f:Nat→Int) (j:Nat):Prop:=f (n * j)=f (n * j+1)∧f (n * j+1)=f (n * j+2)
def GrI (w:World) (n o:Nat) (f:Nat→Int) (Bs:Nat) (k:Nat) (X:World):Prop:=(∃ v,GrB w v X∧X.ownsRow Bs 3 1 v (o * k) (fints (tkF n 2 o f) (o * k)))∧(∀ j,j < k→GryR n f j)∧w.heap.size+3≤Bs∧Bs≤X.heap.size
theorem GrI.called {w X Y:World} {n o:Nat} {f:Nat→Int} {Bs k:Nat} (h:GrI w n o f Bs k X) (hb:Below X.heap.size X Y):GrI w n o f Bs k Y:=by
 obtain⟨⟨v,h1,h2⟩,h3,h4,h5⟩:=h
 exact⟨⟨v,h1.called hb,own_kept h2 fun b cs fz _ hc=>hb.block b (block_lt hc)⟩,h3,h4,Nat.le_trans h5 hb.size⟩
theorem GrB.own {B:Nat} {w V V':World} {v:Value} {row:Option Nat} (hB:w.heap.size≤B) (h:GrB w v V) (hg:V.grownBy V' row) (hr:∀ r,row=some r→B≤r∧∃ ob:Obj,V.heap[r]?=some ob∧ob.isCells=false):GrB w v V':=by
 have hne:=own_ne hg hr
 exact⟨(hne _ _ _ _ h.b1).trans h.b1,(hne _ _ _ _ h.b2).trans h.b2,(hne _ _ _ _ h.b3).trans h.b3,h.bl.grown hg (by have:=h.sz; omega) (fun q hq=>Nat.le_trans hB (hr q hq).1),Nat.le_trans h.sz hg.size⟩
theorem grI_own {B:Nat} {w:World} {n o:Nat} {f:Nat→Int} {Bs:Nat} (hB:w.heap.size≤B):OwnFrom B (GrI w n o f Bs):=fun k V V' row hs hg hr=>by
 obtain⟨⟨v,h1,h2⟩,h3,h4,h5⟩:=hs
 exact⟨⟨v,h1.own hB hg hr,own_kept h2 fun b cs fz _ hc=>own_ne hg hr b cs _ fz hc⟩,h3,h4,Nat.le_trans h5 hg.size⟩
def GrX (w:World) (n N:Nat) (f:Nat→Int) (X:World):Prop:=(∃ v,GrB w v X)∧∃ k,k < N∧¬ GryR n f k
theorem grX_own {B:Nat} {w:World} {n N:Nat} {f:Nat→Int} (hB:w.heap.size≤B):OwnFrom B (fun (_:Nat) X=>GrX w n N f X):=fun k V V' row hs hg hr=>by
 obtain⟨⟨v,h1⟩,h2⟩:=hs
 exact⟨⟨v,h1.own hB hg hr⟩,h2⟩
theorem wp_gry_range {T:Array Value} {assign body:Code} {Q:Exit→Act→World→Prop} {W:World} {gf:Nat} {lb:Array Value} (v:Nat→Value) (N:Nat) (Kp:World→World→Prop)
  (hg:({ tmps:=T,defers:=[] }:Act).eval (.tmp 10)=.func (.func gf) #[] lb) (eg:∀ args w,(callFunc gf args).run Tryz.prog w=.ok (.enter gf args) w) (hseq:TellsEarly gf lb (fun k=>#[v k]) N Kp W)
  (hKt:∀ {A B C:World},Kp A B→Kp B C→Kp A C) (hKp:∀ (X:World) (i:Nat) (o:Obj),W.heap.size≤i→Kp X (X.putObj i o)) (hKa:∀ (X:World) (o:Obj),W.heap.size≤X.heap.size→Kp X (X.alloc o))
  (I:Nat→World→Prop) (hI:OwnFrom W.heap.size I) (hId:∀ k X n,I k X→I k (X.drewN n)) (h0:I 0 W) (Ix:World→Prop) (hIx:OwnFrom W.heap.size fun (_:Nat) X=>Ix X) (hIxd:∀ X n,Ix X→Ix (X.drewN n))
  (hassign:∀ (l k:Nat) (X:World) (K:Act→World→Prop),K { tmps:=(T.setIfInBounds 11 (v k)).setIfInBounds 7 (v k),defers:=[] } X→assign.wpIn (Fence.wide.inRound l) 4 Tryz.prog (Exit.then K (fun _ _ _=>False)) { tmps:=T.setIfInBounds 11 (v k),defers:=[] } X)
  (hbody:∀ (l k:Nat) (X:World),k < N→I k X→body.wpIn (Fence.wide.inRound l) 4 Tryz.prog (fun e _ Y=>(e=.normal∧KeepsFrom W.heap.size X Y∧Kp X Y∧I (k+1) Y)∨(e=.ret∧KeepsFrom W.heap.size X Y∧Ix Y)) { tmps:=(T.setIfInBounds 11 (v k)).setIfInBounds 7 (v k),defers:=[] } X)
  (hdone:∀ (X:World),I N X→X.heap[W.heap.size]?=some (.deferred (some []))→Q .normal { tmps:=T,defers:=[{ target:=.collected W.heap.size,args:=#[] }] } X)
  (hstop:∀ (X:World),Ix X→X.heap[W.heap.size]?=some (.deferred (some []))→Code.ret.wp Tryz.prog Q { tmps:=T,defers:=[{ target:=.collected W.heap.size,args:=#[] }] } X):
  (Code.rangeFunc (.tmp 10) #[11] assign body).wp Tryz.prog Q { tmps:=T,defers:=[] } W:=by
 refine wp_range_early (fun k=>#[v k]) N Kp hg eg (fun _=>rfl) hseq hKt hKp hKa I hI hId h0 Ix hIx hIxd (fun k=>{ tmps:=(T.setIfInBounds 11 (v k)).setIfInBounds 7 (v k),defers:=[] }) ?_ hbody hdone hstop
 intro l k X K hK
 refine Eq.mp (congrArg (fun T'=>Code.wpIn (Fence.wide.inRound l) 4 Tryz.prog assign (Exit.then K fun _ _ _=>False) { tmps:=T',defers:=[] } X) ?_) (hassign l k X K hK)
 simp
theorem gry_leave {D B:Nat} {X:World} {T:Array Value} {v u:Value} {R:Ending→World→Prop} (hK:X.heap[D]?=some (.deferred (some []))) (hT:T.getD 4 undef=.pointer (some ⟨B,0,none⟩)) (hU:T.getD 5 undef=.pointer (some ⟨B+1,0,none⟩)) (hv:X.heap[B]?=some (.cells #[v] 25 (0,0))) (hu:X.heap[B+1]?=some (.cells #[u] 4 (0,0))) (hR:R (.returned (.tuple #[v,u])) (X.putObj D (.deferred none))):
  LeavesInM Fence.wide 6 Tryz.prog Tryz.f55 T R [{ target:=.collected D,args:=#[] }] .returning X:=by
 refine⟨by simp,.inl ⟨_,_,rfl,run_takeDeferred hK,?_⟩⟩
 refine⟨.tuple #[v,u],?_,hR⟩
 have hT':T[4]?.getD undef=.pointer (some ⟨B,0,none⟩):=by
  rw[← hT]
  simp
 have hU':T[5]?.getD undef=.pointer (some ⟨B+1,0,none⟩):=by
  rw[← hU]
  simp
 have hv':(X.putObj D (.deferred none)).cell? ⟨B,0,none⟩=some v:=(cell_of_block ((World.putObj_heap_other (fun e=>by rw [e,hK] at hv; cases hv)).trans hv) 0).trans rfl
 have hu':(X.putObj D (.deferred none)).cell? ⟨B+1,0,none⟩=some u:=(cell_of_block ((World.putObj_heap_other (fun e=>by rw [e,hK] at hu; cases hu)).trans hu) 0).trans rfl
 simp[results,Tryz.results55,go_sem,hT',hU',hv',hu']
theorem chunkE_none (Bs Bn cap:Nat) (a:Option Addr) (en:Nat→Array Value) (W:World) (hBs:W.cell? ⟨Bs,0,none⟩=some (.slice a 0 cap)):
  TellsEarly 107 #[.pointer (some ⟨Bs,0,none⟩),.pointer (some ⟨Bn,0,none⟩)] en 0 (BothI Bs Bn) W:=by
 intro l J Jx V hWV hJd hXd hY h0
 have c1:V.cell? ⟨Bs,0,none⟩=some (.slice a 0 cap):=by
  unfold World.cell? at hBs ⊢
  rw[hWV.1]
  exact hBs
 have H0:=hid_of h0
 clear hY hJd hXd h0 hBs hWV
 refine callsIn_of_wp Tryz.func107 rfl trivial ?_ rfl
 simp only [Tryz.ntmps107,List.size_toArray,List.length_cons,List.length_nil,Nat.reduceAdd,Nat.reduceSub,Array.replicate_succ,Array.replicate_zero,List.push_toArray,List.append_toArray,List.nil_append,List.cons_append]
 gi_wp2
 gi_loopw [4] (fun i wr=>i=.int .i64 0∧wr=V) (fun i _=>0)
 case atStart=>exact⟨rfl,rfl⟩
 case round=>
  obtain⟨rfl,rfl⟩:=hrel
  gi_wp2
  go_end0
  exact⟨⟨_,rfl⟩,.inl H0.out⟩
def GryPost (n o N:Nat) (f:Nat→Int) (w:World) (e:Ending) (w':World):Prop:=∃ ok a m c,e=.returned (.tuple #[.slice a m c,.bool ok])∧(ok=true↔∀ k,k < N→GryR n f k)∧(ok=true→m=o * N∧SL w' w.heap.size a (o * N) c (tkF n 2 o f)∧o * N≤c∧c≤maxLen)∧Below w.heap.size w w'
set_option maxRecDepth 100000 in
set_option maxHeartbeats 4000000 in
theorem gry_at (a0:Option Addr) (len g off n o N cap:Nat) (f:Nat→Int) (w:World) (hno:n=o+2) (h1:1≤o) (h4:n≤4) (hN:N≤1000)
  (htell:∀ (D:Nat) (u2:World),u2.cell? ⟨D,0,none⟩=some (.slice a0 len cap)→u2.cell? ⟨D+1,0,none⟩=some (.int .i64 (n:Int))→TellsEarly 107 #[.pointer (some ⟨D,0,none⟩),.pointer (some ⟨D+1,0,none⟩)] (chunkI g off n) N (BothI D (D+1)) u2)
  (hg:0 < N→g < w.heap.size) (hc:∀ j,j < n * N→w.cell? ⟨g,off+j,none⟩=some (.int .i64 (f j))):
  Calls Tryz.prog 55 #[.slice a0 len cap,.int .i64 (n:Int)] w (GryPost n o N f w):=by
 have H0:Hid (GrB w (.slice none 0 0) (((w.alloc (.cells #[.slice none 0 0] 25)).alloc (.cells #[.bool false] 4)).alloc (.cells #[.slice none 0 0] 25))):=GrB.start w
 have HC:=hid_of hc
 have HNO:=hid_of hno
 have HTE:=hid_of htell
 have hn1:1≤n:=by omega
 clear hc hno htell
 refine calls_of_marks Tryz.func55 rfl ?_
 simp only [Tryz.ntmps55,List.size_toArray,List.length_cons,List.length_nil,Nat.reduceAdd,Nat.reduceSub,Array.replicate_succ,Array.replicate_zero,List.push_toArray,List.append_toArray,List.nil_append,List.cons_append]
 go_wp2_with fail
 refine (chunkI_any a0 len cap n _ hn1).mono ?_
 rintro e u2 ⟨rfl,h2⟩
 generalize (((w.alloc (.cells #[.slice none 0 0] 25)).alloc (.cells #[.bool false] 4)).alloc (.cells #[.slice none 0 0] 25))=u1 at H0 h2 ⊢
 have hb2:Below u1.heap.size u1 u2:=by rw [h2]; exact bal (bstart _ _) _
 have hBs:u2.cell? ⟨u1.heap.size,0,none⟩=some (.slice a0 len cap):=by rw [h2]; exact (grow_cell _ (by simp) 0).trans ((cell_of_block (heap_alloc_new u1 _) 0).trans rfl)
 have hBn:u2.cell? ⟨u1.heap.size+1,0,none⟩=some (.int .i64 (n:Int)):=by
  rw[h2]
  have h:=heap_alloc_new (u1.alloc (.cells #[.slice a0 len cap] 25)) (.cells #[.int .i64 (n:Int)] 3)
  rw[World.size_alloc] at h
  exact (cell_of_block h 0).trans rfl
 have hz2:u2.heap.size=u1.heap.size+2:=by rw [h2]; simp
 have H2:Hid (GrI w n o f u2.heap.size 0 u2):=⟨⟨_,H0.out.called hb2,by rw [Nat.mul_zero]; exact⟨rfl,.inl ⟨rfl,rfl⟩⟩⟩,fun j hj=>absurd hj (Nat.not_lt_zero j),by have:=H0.out.sz; omega,Nat.le_refl _⟩
 have HZ1:Hid (w.heap.size+3≤u1.heap.size):=H0.out.sz
 have HBs:=hid_of hBs
 have HBn:=hid_of hBn
 clear h2 hb2 hBs hBn H0
 generalize u1.heap.size=D at HBs HBn hz2 HZ1 ⊢
 go_wp2_with fail
 refine wp_gry_range (fun k=>.slice (some ⟨g,off+n * k,none⟩) n n) N (BothI D (D+1)) (by simp [Act.eval]) (enters_of Tryz.func107 (by kernel_rfl) rfl) (HTE.out D u2 HBs.out HBn.out) (fun h k=>⟨k.1.trans h.1,k.2.trans h.2⟩) (fun X i o hi=>⟨World.putObj_heap_other (by omega),World.putObj_heap_other (by omega)⟩) (fun X o hX=>⟨(bstart X o).block _ (by omega),(bstart X o).block _ (by omega)⟩) (GrI w n o f u2.heap.size) (grI_own (by have:=HZ1.out; omega)) (fun k X n h=>h.called (bdraws (Below.refl _ _) n)) H2.out (GrX w n N f) (grX_own (by have:=HZ1.out; omega)) (fun X n h=>⟨h.1.elim fun v q=>⟨v,q.called (bdraws (Below.refl _ _) n)⟩,h.2⟩) ?_ ?_ ?_ ?_
 ·intro l k V K hK
  simp only [zsa,zsc,zsb] at hK ⊢
  gi_wp2
  exact hK
 ·have HZ2:=hid_of hz2
  clear hz2
  intro l k X hk hPI
  simp only [zsa,zsc,zsb]
  obtain⟨⟨v,hB,hrow⟩,hall,hz3,hz4⟩:=hPI
  have hg1:=hg (by omega)
  have hkn:n * k+n≤n * N:=by
   have h2:=Nat.mul_le_mul_left n (show k+1≤N from hk)
   rw[Nat.mul_succ] at h2
   exact h2
  have hn3:3≤n:=by have:=HNO.out; omega
  have cn:∀ i,i < n→X.cell? ⟨g,off+n * k+i,none⟩=some (.int .i64 (f (n * k+i))):=fun i hi=>by
   have h2:=(hB.bl.cell (p:=⟨g,off+(n * k+i),none⟩) hg1).trans (HC.out _ (by omega))
   rw[← Nat.add_assoc] at h2
   exact h2
  have i1:(1:Int) < (n:Int):=by omega
  have i2:(2:Int) < (n:Int):=by omega
  have i0:(0:Int) < (n:Int):=by omega
  have i3:1 < n:=by omega
  have i4:2 < n:=by omega
  have i5:0 < n:=by omega
  have hok:o * k≤4000:=by
   have:=Nat.mul_le_mul (show o≤4 by have:=HNO.out; omega) (show k≤1000 by omega)
   omega
  have HB:=hid_of hB
  have HRow:=hid_of hrow
  have HAll:=hid_of hall
  clear hB hrow hall
  gi_wp2
  refine region_round (S:=fun Y=>Y=X.drew) (by simp) (by
   rintro⟨_,_,h⟩
   rcases h with h | h
   ·exact absurd (show Exit.outgrown=Exit.normal from h.1) (by simp)
   ·exact absurd (show Exit.outgrown=Exit.ret from h.1) (by simp)) ?_
  have HB0:Hid (GrB w v X.drew):=HB.out.called (bdraws (Below.refl _ _) 1)
  have cn0:X.drew.cell? ⟨g,off+n * k,none⟩=some (.int .i64 (f (n * k))):=cn 0 i5
  have cn1:X.drew.cell? ⟨g,off+n * k+1,none⟩=some (.int .i64 (f (n * k+1))):=cn 1 i3
  have cn2:X.drew.cell? ⟨g,off+n * k+2,none⟩=some (.int .i64 (f (n * k+2))):=cn 2 i4
  have HXK:Hid (KeepsFrom u2.heap.size X X.drew∧BothI D (D+1) X X.drew∧X.drew.ownsRow u2.heap.size 3 1 v (o * k) (fints (tkF n 2 o f) (o * k))∧u2.heap.size≤X.drew.heap.size):=⟨⟨(bdraws (Below.refl X.heap.size X) 1).size,fun b ob _ hk _=>hk⟩,⟨rfl,rfl⟩,HRow.out,hz4⟩
  have HSx:(fun Y=>Y=X.drew) X.drew:=rfl
  generalize X.drew=u0 at HB0 cn0 cn1 cn2 HXK HSx ⊢
  clear cn HB HRow
  have lg:g < u0.heap.size:=Nat.lt_of_lt_of_le hg1 HB0.out.bl.size
  have HG:Hid (GryR n f k↔f (n * k)=f (n * k+1)∧f (n * k+1)=f (n * k+2)):=Iff.rfl
  generalize f (n * k)=x0 at cn0 HG
  generalize f (n * k+1)=x1 at cn1 HG
  generalize f (n * k+2)=x2 at cn2 HG
  refine zqt 0 (.slice (some ⟨g,off+n * k,none⟩) n n) rfl ?_ HSx ?_
  ·intro w' _
   go_simp
  simp only [Act.put,zga,zgb,zsa,zsb,zsc]
  refine zqt 1 (.pointer (some ⟨g,off+n * k,none⟩)) rfl ?_ HSx ?_
  ·intro w' _
   go_simp
  simp only [Act.put,zga,zgb,zgc,zsa,zsb,zsc]
  refine zqt 2 (.int .i64 x0) rfl ?_ HSx ?_
  ·intro w' hS
   subst hS
   go_simp
  simp only [Act.put,zga,zgb,zgc,zsa,zsb,zsc]
  refine zqt 3 (.slice (some ⟨g,off+n * k,none⟩) n n) rfl ?_ HSx ?_
  ·intro w' _
   go_simp
  simp only [Act.put,zga,zgb,zgc,zsa,zsb,zsc]
  refine zqt 4 (.pointer (some ⟨g,off+n * k+1,none⟩)) rfl ?_ HSx ?_
  ·intro w' _
   go_simp
  simp only [Act.put,zga,zgb,zgc,zsa,zsb,zsc]
  refine zqt 5 (.int .i64 x1) rfl ?_ HSx ?_
  ·intro w' hS
   subst hS
   go_simp
  simp only [Act.put,zga,zgb,zgc,zsa,zsb,zsc]
  by_cases h01:x0=x1
  ·have n1:(x0 != x1)=false:=by simpa using h01
   refine zqt 6 (.bool false) rfl ?_ HSx ?_
   ·intro w' _
    go_simp
   simp only [Act.put,zga,zgb,zgc,zsa,zsb,zsc]
   refine zqt 7 (.bool false) rfl ?_ HSx ?_
   ·intro w' _
    go_simp
   simp only [Act.put,zga,zgb,zgc,zsa,zsb,zsc]
   refine zqt 8 (.slice (some ⟨g,off+n * k,none⟩) n n) rfl ?_ HSx ?_
   ·intro w' _
    go_simp
   simp only [Act.put,zga,zgb,zgc,zsa,zsb,zsc]
   refine zqt 9 (.pointer (some ⟨g,off+n * k+1,none⟩)) rfl ?_ HSx ?_
   ·intro w' _
    go_simp
   simp only [Act.put,zga,zgb,zgc,zsa,zsb,zsc]
   refine zqt 10 (.int .i64 x1) rfl ?_ HSx ?_
   ·intro w' hS
    subst hS
    go_simp
   simp only [Act.put,zga,zgb,zgc,zsa,zsb,zsc]
   refine zqt 11 (.slice (some ⟨g,off+n * k,none⟩) n n) rfl ?_ HSx ?_
   ·intro w' _
    go_simp
   simp only [Act.put,zga,zgb,zgc,zsa,zsb,zsc]
   refine zqt 12 (.pointer (some ⟨g,off+n * k+2,none⟩)) rfl ?_ HSx ?_
   ·intro w' _
    go_simp
   simp only [Act.put,zga,zgb,zgc,zsa,zsb,zsc]
   refine zqt 13 (.int .i64 x2) rfl ?_ HSx ?_
   ·intro w' hS
    subst hS
    go_simp
   simp only [Act.put,zga,zgb,zgc,zsa,zsb,zsc]
   by_cases h12:x1=x2
   ·have n2:(x1 != x2)=false:=by simpa using h12
    have HFM:=hid_of (HG.out.mpr ⟨h01,h12⟩)
    clear h01 h12
    refine zqt 14 (.bool false) rfl ?_ HSx ?_
    ·intro w' _
     go_simp
    simp only [Act.put,zga,zgb,zgc,zsa,zsb,zsc]
    refine zqt 15 (.bool false) rfl ?_ HSx ?_
    ·intro w' _
     go_simp
    simp only [Act.put,zga,zgb,zgc,zsa,zsb,zsc]
    refine wpAnyH_done (by kernel_rfl) ?_ _
    clear n1 n2 HSx cn0 cn1 cn2
    gi_wp2
    refine region_round (S:=fun _=>True) (by simp) (by
     rintro⟨_,_,h⟩
     rcases h with h | h
     ·exact absurd (show Exit.outgrown=Exit.normal from h.1) (by simp)
     ·exact absurd (show Exit.outgrown=Exit.ret from h.1) (by simp)) ?_
    have HB1:Hid (GrB w v u0.drew):=HB0.out.called (bdraws (Below.refl _ _) 1)
    have HXK1:Hid (KeepsFrom u2.heap.size X u0.drew∧BothI D (D+1) X u0.drew∧u0.drew.ownsRow u2.heap.size 3 1 v (o * k) (fints (tkF n 2 o f) (o * k))∧u2.heap.size≤u0.drew.heap.size):=⟨HXK.out.1.trans ⟨(bdraws (Below.refl u0.heap.size u0) 1).size,fun b ob _ hk _=>hk⟩,HXK.out.2⟩
    generalize u0.drew=V2 at HB1 HXK1 ⊢
    clear HB0 HXK lg
    have hS0:(fun _:World=>True) V2:=trivial
    have on:n - 2=o:=by have:=HNO.out; omega
    have n2':¬ n=2:=by omega
    have n3:¬ n < 2:=by omega
    have n4:¬ (n:Int) < 2:=by omega
    have n5:(2:Int)≤(n:Int):=by omega
    have n6:2≤n:=by omega
    have n7:¬ o=0:=by omega
    refine zqt 1 (.slice (some ⟨g,off+n * k,none⟩) n n) rfl ?_ hS0 ?_
    ·intro w' _
     go_simp
    simp only [Act.put,zga,zgb,zgc,zsa,zsb,zsc]
    refine zqt 2 (.slice (some ⟨g,off+n * k+2,none⟩) o o) rfl ?_ hS0 ?_
    ·intro w' _
     go_simp
    simp only [Act.put,zga,zgb,zgc,zsa,zsb,zsc]
    clear on n2' n3 n4 n5 n6 n7
    have c3:=(cell_of_block HB1.out.b3 0).trans rfl
    have l3:=block_lt HB1.out.b3
    refine zqr 0 rfl (fun K1 hK=>?_)
    refine if_wanted (wanted_none rfl) ?_
    simp only [zga,zgb]
    go_simp
    refine hK.out _ _ trivial (fun _=>?_)
    clear hK
    obtain⟨t0,hi0,hz0,hz1,hz2⟩:=info_parts info_int18
    have i3:=HXK1.out.2.2.1
    have hnews:∀ (j:Nat) (y:Value),(fints (fun i=>f (n * k+2+i)) o)[j]?=some y→V2.cell? ((⟨g,off+n * k+2,none⟩:Addr).add j)=some y:=fun j y hy=>by
     have hj:j < o:=by
      rcases Nat.lt_or_ge j o with q | q
      ·exact q
      ·rw[List.getElem?_eq_none (by rw [fints_length]; exact q)] at hy; cases hy
     rw[List.getElem?_eq_getElem (by rw [fints_length]; exact hj),fints_get] at hy
     have hlt:n * k+(2+j) < n * N:=by have:=HNO.out; omega
     have h2:=(HB1.out.bl.cell (p:=⟨g,off+(n * k+(2+j)),none⟩) hg1).trans (HC.out _ hlt)
     rw[Addr.add_lit,show off+n * k+2+j=off+(n * k+(2+j)) by omega,h2,← Option.some.inj hy,show n * k+(2+j)=n * k+2+j by omega]
    obtain⟨v2,V3,hr,a2,a3,_,_⟩:=run_append_own_at (P:=Tryz.prog) V2 u2.heap.size 25 25 3 t0 (.int .i64 0) 1 8 Tryz.underlying25 hi0 hz0 hz1 hz2 rfl (by omega) v (o * k) _ i3 ⟨g,off+n * k+2,none⟩ o o (fints (fun i=>f (n * k+2+i)) o) (by rw [fints_length,Nat.mul_one]) hnews (fun u hu=>by
     unfold fints at hu
     obtain⟨x,_,rfl⟩:=List.mem_map.mp hu
     rfl) (by have:=HNO.out; unfold maxLen; omega) (by have:=HNO.out; omega) HXK1.out.2.2.2
    obtain⟨va,vl,vc,rfl⟩:∃ a l c,v2=.slice a l c:=by
     rcases a2.2 with ⟨h,_⟩ | ⟨_,_,_,h,_⟩
     ·exact⟨_,_,_,h⟩
     ·exact⟨_,_,_,h⟩
    have hrow:∀ b,v.ownBlock=some b→u2.heap.size≤b:=fun b hb=>(i3.lt b hb).1
    have j3:V3.heap[w.heap.size+1+1]?=some (.cells #[v] 25 (0,0)):=(a3.block _ l3 (fun e=>by have:=hrow _ e.symm; have:=HZ1.out; have:=HZ2.out; omega)).trans HB1.out.b3
    have HJ3:=hid_of j3
    have d0:V3.cell? ⟨w.heap.size+1+1,0,none⟩=some v:=(cell_of_block j3 0).trans rfl
    have df:∀ k,V3.frozen? ⟨w.heap.size+1+1,k,none⟩=false:=unfrozen_of_block j3
    have dl:=block_lt j3
    have HA2:=hid_of a2
    have HA3:=hid_of a3
    have HROW:=hid_of hrow
    have HOWN:Hid (∀ b,v.ownBlock=some b→∃ cs,V2.heap[b]?=some (.cells cs 3 (0,0))):=fun b hb=>by
     rcases i3.2 with ⟨h,_⟩ | ⟨g1,cap,cur,h,_,q2,_⟩
     ·rw[h] at hb; simp [Value.ownBlock] at hb
     ·rw[h] at hb
      simp[Value.ownBlock] at hb
      exact⟨cur,hb ▸ q2⟩
    clear i3 j3 a2 a3 hrow hi0 hz0 hz1 hz2 hnews c3 l3
    refine zqr 3 rfl (fun K1 hK=>?_)
    refine if_wanted (wanted_none rfl) ?_
    simp only [zga,zgb,zgc]
    refine step_append_run (.tmp 28) (.tmp 30) 25 rfl v (.slice (some ⟨g,off+n * k+2,none⟩) o o) (by simp [Act.eval]) (by simp [Act.eval]) hr ?_
    refine hK.out _ _ trivial (fun _=>?_)
    simp only [Act.put,zsa,zsb,zsc]
    clear hK
    refine zqr 4 rfl (fun K1 hK=>?_)
    refine if_wanted (wanted_none rfl) ?_
    simp only [zga,zgb,zgc]
    go_simp
    refine hK.out _ _ trivial (fun _=>?_)
    clear hK
    refine wpAnyH_done (by kernel_rfl) ?_ _
    have hz1:=HZ1.out
    have hz2:=HZ2.out
    have hW:∀ b,b≠w.heap.size+1+1→b < V2.heap.size→v.ownBlock≠some b→(V3.setCell ⟨w.heap.size+1+1,0,none⟩ (.slice va vl vc)).heap[b]?=V2.heap[b]?:=fun b h1 h2 h3=>(Below.heap_setCell _ _ _ _ h1).trans (HA3.out.block _ h2 (fun e=>h3 e.symm))
    have hsz:V2.heap.size≤(V3.setCell ⟨w.heap.size+1+1,0,none⟩ (.slice va vl vc)).heap.size:=by have:=HA3.out.size; simpa using this
    have hno:∀ b,b < u2.heap.size→v.ownBlock≠some b:=fun b h e=>by have:=HROW.out _ e; omega
    have hzV:=HXK1.out.2.2.2
    refine .inl ⟨rfl,HXK1.out.1.trans ⟨hsz,fun b ob hb hk2 ho=>?_⟩,⟨(hW D (by omega) (by omega) (hno D (by omega))).trans HXK1.out.2.1.1,(hW (D+1) (by omega) (by omega) (hno (D+1) (by omega))).trans HXK1.out.2.1.2⟩,⟨.slice va vl vc,⟨?_,?_,?_,?_,?_⟩,?_⟩,?_,by omega,by omega⟩
    ·rw[hW b (by omega) (block_lt hk2) (fun e=>by
      obtain⟨cs,h⟩:=HOWN.out b e
      rw[hk2] at h
      cases h
      cases ho)]
     exact hk2
    ·exact (hW _ (by omega) (block_lt HB1.out.b1) (hno _ (by omega))).trans HB1.out.b1
    ·exact (hW _ (by omega) (block_lt HB1.out.b2) (hno _ (by omega))).trans HB1.out.b2
    ·have q:=HJ3.out
     simp[World.setCell,Array.getElem?_modify,q]
    ·exact (HB1.out.bl.grown HA3.out (by have:=HB1.out.sz; omega) (fun b hb=>by have:=HROW.out _ hb; omega)).setCell (p:=⟨w.heap.size+1+1,0,none⟩) (by simp; omega) _
    ·exact Nat.le_trans HB1.out.sz hsz
    ·rw[fints_tk,Nat.mul_succ]
     exact own_kept HA2.out fun b cs fz hb _=>Below.heap_setCell _ _ _ _ (by show b≠w.heap.size+1+1; omega)
    ·intro j hj
     by_cases e:j=k
     ·rw[e]; exact HFM.out
     ·exact HAll.out j (by omega)
   ·have n2:(x1 != x2)=true:=by simpa using h12
    have HFM:Hid (¬ GryR n f k):=fun h=>h12 (HG.out.mp h).2
    clear h01 h12
    refine zqt 14 (.bool true) rfl ?_ HSx ?_
    ·intro w' _
     go_simp
    simp only [Act.put,zga,zgb,zgc,zsa,zsb,zsc]
    refine zqt 15 (.bool true) rfl ?_ HSx ?_
    ·intro w' _
     go_simp
    simp only [Act.put,zga,zgb,zgc,zsa,zsb,zsc]
    refine wpAnyH_done (by kernel_rfl) ?_ _
    clear HSx
    have c1:=(cell_of_block HB0.out.b1 0).trans rfl
    have c2:=(cell_of_block HB0.out.b2 0).trans rfl
    have f1:∀ k,u0.frozen? ⟨w.heap.size,k,none⟩=false:=unfrozen_of_block HB0.out.b1
    have f2:∀ k,u0.frozen? ⟨w.heap.size+1,k,none⟩=false:=unfrozen_of_block HB0.out.b2
    have l1:=block_lt HB0.out.b1
    have l2:=block_lt HB0.out.b2
    gi_wp2
    refine⟨HXK.out.1.trans ⟨by simp,fun b ob hb hk2 _=>?_⟩,⟨v,HB0.out.again⟩,k,hk,HFM.out⟩
    have:=HZ1.out
    have:=HZ2.out
    rw[Below.heap_setCell _ _ _ _ (by show b≠w.heap.size+1; omega),Below.heap_setCell _ _ _ _ (by show b≠w.heap.size; omega)]
    exact hk2
  ·have n1:(x0 != x1)=true:=by simpa using h01
   have HFM:Hid (¬ GryR n f k):=fun h=>h01 (HG.out.mp h).1
   clear h01
   refine zqt 6 (.bool true) rfl ?_ HSx ?_
   ·intro w' _
    go_simp
   simp only [Act.put,zga,zgb,zgc,zsa,zsb,zsc]
   refine zqt 7 (.bool true) rfl ?_ HSx ?_
   ·intro w' _
    go_simp
   simp only [Act.put,zga,zgb,zgc,zsa,zsb,zsc]
   refine zqu 8 rfl HSx ?_
   simp only [Act.put,zga,zgb,zgc,zsa,zsb,zsc]
   refine zqu 9 rfl HSx ?_
   simp only [Act.put,zga,zgb,zgc,zsa,zsb,zsc]
   refine zqu 10 rfl HSx ?_
   simp only [Act.put,zga,zgb,zgc,zsa,zsb,zsc]
   refine zqu 11 rfl HSx ?_
   simp only [Act.put,zga,zgb,zgc,zsa,zsb,zsc]
   refine zqu 12 rfl HSx ?_
   simp only [Act.put,zga,zgb,zgc,zsa,zsb,zsc]
   refine zqu 13 rfl HSx ?_
   simp only [Act.put,zga,zgb,zgc,zsa,zsb,zsc]
   refine zqu 14 rfl HSx ?_
   simp only [Act.put,zga,zgb,zgc,zsa,zsb,zsc]
   refine zqt 15 (.bool true) rfl ?_ HSx ?_
   ·intro w' _
    go_simp
   simp only [Act.put,zga,zgb,zgc,zsa,zsb,zsc]
   refine wpAnyH_done (by kernel_rfl) ?_ _
   clear HSx
   have c1:=(cell_of_block HB0.out.b1 0).trans rfl
   have c2:=(cell_of_block HB0.out.b2 0).trans rfl
   have f1:∀ k,u0.frozen? ⟨w.heap.size,k,none⟩=false:=unfrozen_of_block HB0.out.b1
   have f2:∀ k,u0.frozen? ⟨w.heap.size+1,k,none⟩=false:=unfrozen_of_block HB0.out.b2
   have l1:=block_lt HB0.out.b1
   have l2:=block_lt HB0.out.b2
   gi_wp2
   refine⟨HXK.out.1.trans ⟨by simp,fun b ob hb hk2 _=>?_⟩,⟨v,HB0.out.again⟩,k,hk,HFM.out⟩
   have:=HZ1.out
   have:=HZ2.out
   rw[Below.heap_setCell _ _ _ _ (by show b≠w.heap.size+1; omega),Below.heap_setCell _ _ _ _ (by show b≠w.heap.size; omega)]
   exact hk2
 ·have HZ2:=hid_of hz2
  clear hz2
  intro X hPI hD
  obtain⟨⟨v,hB,hrow⟩,hall,hz3,hz4⟩:=hPI
  obtain⟨va,vc,rfl,hva⟩:∃ a c,v=.slice a (o * N) c∧(∀ W:World,(∀ (b:Nat) (cs:Array Value) (fz:Nat×Nat),X.heap[b]?=some (.cells cs 3 fz)→W.heap[b]?=X.heap[b]?)→SL W w.heap.size a (o * N) c (tkF n 2 o f)∧o * N≤c∧c≤maxLen):=by
   rcases hrow.2 with ⟨e,h⟩ | ⟨g1,cap1,cur,e,q1,q2,q3,q4,q5,q6⟩
   ·refine⟨none,0,by rw [e,h],fun W _=>⟨.inl h,by omega,by unfold maxLen; omega⟩⟩
   ·refine⟨_,cap1,e,fun W hW=>⟨.inr ⟨g1,rfl,cap1,cur,(0,0),?_,by have:=HZ1.out; have:=HZ2.out; omega,(hW _ _ _ q2).trans q2,.inl rfl,?_,q4,?_,?_⟩,q3,q4⟩⟩
    ·rw[fints_length]
    ·rw[fints_length]; exact q3
    ·simpa using q5
    ·rw[fints_length]; simpa using q6
  have c3:=(cell_of_block hB.b3 0).trans rfl
  have c1:=(cell_of_block hB.b1 0).trans rfl
  have c2:=(cell_of_block hB.b2 0).trans rfl
  have f1:∀ k,X.frozen? ⟨w.heap.size,k,none⟩=false:=unfrozen_of_block hB.b1
  have f2:∀ k,X.frozen? ⟨w.heap.size+1,k,none⟩=false:=unfrozen_of_block hB.b2
  have l1:=block_lt hB.b1
  have l2:=block_lt hB.b2
  have l3:=block_lt hB.b3
  have HB:=hid_of hB
  have HVA:=hid_of hva
  have HALL:=hid_of hall
  have HD:=hid_of hD
  clear hB hva hrow hall hD hz3 hz4
  go_wp2_with fail
  have hz1:=HZ1.out
  have hz2:=HZ2.out
  have hoth:∀ b,b≠w.heap.size→b≠w.heap.size+1→((X.setCell ⟨w.heap.size,0,none⟩ (.slice va (o * N) vc)).setCell ⟨w.heap.size+1,0,none⟩ (.bool true)).heap[b]?=X.heap[b]?:=fun b h1 h2=>by
   rw[Below.heap_setCell _ _ _ _ h2,Below.heap_setCell _ _ _ _ h1]
  have hv1:((X.setCell ⟨w.heap.size,0,none⟩ (.slice va (o * N) vc)).setCell ⟨w.heap.size+1,0,none⟩ (.bool true)).heap[w.heap.size]?=some (.cells #[.slice va (o * N) vc] 25 (0,0)):=by
   rw[Below.heap_setCell _ _ _ _ (by show w.heap.size≠w.heap.size+1; omega)]
   simp[World.setCell,Array.getElem?_modify,HB.out.b1]
  have hu1:((X.setCell ⟨w.heap.size,0,none⟩ (.slice va (o * N) vc)).setCell ⟨w.heap.size+1,0,none⟩ (.bool true)).heap[w.heap.size+1]?=some (.cells #[.bool true] 4 (0,0)):=by
   have q:(X.setCell ⟨w.heap.size,0,none⟩ (.slice va (o * N) vc)).heap[w.heap.size+1]?=some (.cells #[.bool false] 4 (0,0)):=by rw [Below.heap_setCell _ _ _ _ (by show w.heap.size+1≠w.heap.size; omega)]; exact HB.out.b2
   generalize X.setCell ⟨w.heap.size,0,none⟩ (.slice va (o * N) vc)=u1 at q ⊢
   simp[World.setCell,Array.getElem?_modify,q]
  have hbl:=(HB.out.bl.setCell (p:=⟨w.heap.size,0,none⟩) (by simp) (.slice va (o * N) vc)).setCell (p:=⟨w.heap.size+1,0,none⟩) (by simp) (.bool true)
  generalize ((X.setCell ⟨w.heap.size,0,none⟩ (.slice va (o * N) vc)).setCell ⟨w.heap.size+1,0,none⟩ (.bool true))=X1 at hoth hv1 hu1 hbl ⊢
  have hD1:X1.heap[u2.heap.size]?=some (.deferred (some [])):=(hoth _ (by omega) (by omega)).trans HD.out
  refine gry_leave (B:=w.heap.size) hD1 (by simp) (by simp) hv1 hu1 ⟨true,va,o * N,vc,rfl,⟨fun _=>HALL.out,fun _=>rfl⟩,fun _=>⟨rfl,?_⟩,hbl.grown (grownBy_putObj' X1 _ _) (by have:=block_lt hu1; omega) (fun j q=>by cases q; omega)⟩
  exact HVA.out _ fun b cs fz hb=>(World.putObj_heap_other (fun e=>by rw [e,HD.out] at hb; cases hb)).trans (hoth b (fun e=>by rw [e,HB.out.b1] at hb; cases hb) (fun e=>by rw [e,HB.out.b2] at hb; cases hb))
 ·have HZ2:=hid_of hz2
  clear hz2
  intro X hX hD
  obtain⟨⟨v,hB⟩,k,hk,hne⟩:=hX
  have HB:=hid_of hB
  have HD:=hid_of hD
  have HN:=hid_of hne
  clear hB hD hne
  go_wp2_with fail
  have hz1:=HZ1.out
  have hz2:=HZ2.out
  exact gry_leave (B:=w.heap.size) HD.out (by simp) (by simp) HB.out.b1 HB.out.b2 ⟨false,_,_,_,rfl,⟨fun e=>(by cases e),fun h=>absurd (h k hk) HN.out⟩,fun e=>(by cases e),HB.out.bl.grown (grownBy_putObj' X _ _) (by have:=HB.out.sz; omega) (fun j q=>by cases q; omega)⟩
theorem gry_came (a:Option Addr) (n o N cap:Nat) (f:Nat→Int) (w:World) (hn:n=o+2) (h1:1≤o) (h4:n≤4) (hN:N≤1000) (hcap:n * N≤cap) (hC:Came w a (n * N) f):
  Calls Tryz.prog 55 #[.slice a (n * N) cap,.int .i64 (n:Int)] w (GryPost n o N f w):=by
 rcases Nat.eq_zero_or_pos N with h0 | h0
 ·subst h0
  exact gry_at a 0 0 0 n o 0 cap f w hn h1 h4 (by omega) (fun D u2 c1 _=>chunkE_none D (D+1) cap a _ u2 c1) (fun h=>absurd h (by omega)) (fun j hj=>absurd hj (by omega))
 ·rcases hC with h | ⟨g,off,rfl,hg,hc⟩
  ·have:=Nat.mul_le_mul (show 1≤n by omega) h0
   omega
  ·exact gry_at _ (n * N) g off n o N cap f w hn h1 h4 hN (fun D u2 c1 c2=>chunkE_tells D (D+1) g off n N cap (by omega) h4 (by omega) hcap u2 c1 c2) (fun _=>hg) hc
end Go.Proofs.YtkpbfmdnjnohlaaGreat
