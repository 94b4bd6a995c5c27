/-
  Texts of the proof, put together.
-/
import Derived.Test.YtkpbfmdnjnohlaaGreatRd32
namespace Go.Proofs.YtkpbfmdnjnohlaaGreat
open Go.RowKit Go.Joins Go.Shelf
attribute [local go_sem] Oper.semAt_some
structure UcB (w:World) (most:Int) (o:Nat) (v:Value) (X:World):Prop where
 b0:X.heap[w.heap.size]?=some (.cells #[.int .i64 most] 3 (0,0))
 b1:X.heap[w.heap.size+1]?=some (.cells #[.slice none 0 0] 25 (0,0))
 b2:X.heap[w.heap.size+1+1]?=some (.cells #[.bool false] 4 (0,0))
 b3:X.heap[w.heap.size+1+1+1]?=some (.cells #[v] 25 (0,0))
 b4:X.heap[w.heap.size+1+1+1+1]?=some (.cells #[.int .i64 (o:Int)] 3 (0,0))
 bl:Below w.heap.size w X
 sz:w.heap.size+5≤X.heap.size
theorem UcB.called {w X Y:World} {most:Int} {o:Nat} {v:Value} (h:UcB w most o v X) (hb:Below X.heap.size X Y):UcB w most o v Y:=⟨(hb.block _ (block_lt h.b0)).trans h.b0,(hb.block _ (block_lt h.b1)).trans h.b1,(hb.block _ (block_lt h.b2)).trans h.b2,(hb.block _ (block_lt h.b3)).trans h.b3,(hb.block _ (block_lt h.b4)).trans h.b4,bnext h.bl hb,Nat.le_trans h.sz hb.size⟩
theorem UcB.start (w:World) (most:Int) (o:Nat):UcB w most o (.slice none 0 0) (((((w.alloc (.cells #[.int .i64 most] 3)).alloc (.cells #[.slice none 0 0] 25)).alloc (.cells #[.bool false] 4)).alloc (.cells #[.slice none 0 0] 25)).alloc (.cells #[.int .i64 (o:Int)] 3)):=by
 refine⟨?_,?_,?_,?_,?_,bal (bal (bal (bal (bstart _ _) _) _) _) _,by simp⟩
 ·show (((((w.heap.push _).push _).push _).push _).push _)[w.heap.size]?=_
  rw[Array.getElem?_push,if_neg (by first | (simp; done) | (simp; omega)),Array.getElem?_push,if_neg (by first | (simp; done) | (simp; omega)),Array.getElem?_push,if_neg (by first | (simp; done) | (simp; omega)),Array.getElem?_push,if_neg (by first | (simp; done) | (simp; omega)),Array.getElem?_push,if_pos (by simp)]
 ·show (((((w.heap.push _).push _).push _).push _).push _)[w.heap.size+1]?=_
  rw[Array.getElem?_push,if_neg (by first | (simp; done) | (simp; omega)),Array.getElem?_push,if_neg (by first | (simp; done) | (simp; omega)),Array.getElem?_push,if_neg (by first | (simp; done) | (simp; omega)),Array.getElem?_push,if_pos (by simp)]
 ·show (((((w.heap.push _).push _).push _).push _).push _)[w.heap.size+1+1]?=_
  rw[Array.getElem?_push,if_neg (by first | (simp; done) | (simp; omega)),Array.getElem?_push,if_neg (by first | (simp; done) | (simp; omega)),Array.getElem?_push,if_pos (by simp)]
 ·show (((((w.heap.push _).push _).push _).push _).push _)[w.heap.size+1+1+1]?=_
  rw[Array.getElem?_push,if_neg (by first | (simp; done) | (simp; omega)),Array.getElem?_push,if_pos (by simp)]
 ·show (((((w.heap.push _).push _).push _).push _).push _)[w.heap.size+1+1+1+1]?=_
  rw[Array.getElem?_push,if_pos (by simp)]
theorem UcB.again {w u:World} {most:Int} {o:Nat} {v:Value} (h:UcB w most o v u):UcB w most o v ((u.setCell ⟨w.heap.size+1,0,none⟩ (.slice none 0 0)).setCell ⟨w.heap.size+1+1,0,none⟩ (.bool false)):=by
 refine⟨?_,?_,?_,?_,?_,(h.bl.setCell (p:=⟨w.heap.size+1,0,none⟩) (by simp) _).setCell (p:=⟨w.heap.size+1+1,0,none⟩) (by simp; omega) _,by simpa using h.sz⟩
 ·rw[Below.heap_setCell _ _ _ _ (by show w.heap.size≠w.heap.size+1+1; omega),Below.heap_setCell _ _ _ _ (by show w.heap.size≠w.heap.size+1; omega)]; exact h.b0
 ·rw[Below.heap_setCell _ _ _ _ (by show w.heap.size+1≠w.heap.size+1+1; omega)]; simp [World.setCell,Array.getElem?_modify,h.b1]
 ·have q:(u.setCell ⟨w.heap.size+1,0,none⟩ (.slice none 0 0)).heap[w.heap.size+1+1]?=some (.cells #[.bool false] 4 (0,0)):=by rw [Below.heap_setCell _ _ _ _ (by show w.heap.size+1+1≠w.heap.size+1; omega)]; exact h.b2
  generalize u.setCell ⟨w.heap.size+1,0,none⟩ (.slice none 0 0)=u1 at q ⊢
  simp[World.setCell,Array.getElem?_modify,q]
 ·rw[Below.heap_setCell _ _ _ _ (by show w.heap.size+1+1+1≠w.heap.size+1+1; omega),Below.heap_setCell _ _ _ _ (by show w.heap.size+1+1+1≠w.heap.size+1; omega)]; exact h.b3
 ·rw[Below.heap_setCell _ _ _ _ (by show w.heap.size+1+1+1+1≠w.heap.size+1+1; omega),Below.heap_setCell _ _ _ _ (by show w.heap.size+1+1+1+1≠w.heap.size+1; omega)]; exact h.b4
def UcI (w:World) (most:Int) (n o:Nat) (f:Nat→Int) (Bs:Nat) (k:Nat) (X:World):Prop:=(∃ v,UcB w most o v X∧X.ownsRow Bs 3 1 v (o * k) (fints (tkF n 0 o f) (o * k)))∧(∀ j,j < k→f (n * j+o)=most)∧w.heap.size+5≤Bs∧Bs≤X.heap.size
theorem UcI.called {w X Y:World} {most:Int} {n o:Nat} {f:Nat→Int} {Bs k:Nat} (h:UcI w most n o f Bs k X) (hb:Below X.heap.size X Y):UcI w most n o f Bs k Y:=by
 obtain⟨⟨v,h1,h2⟩,h3,h4,h5⟩:=h
 exact⟨⟨v,h1.called hb,own_kept h2 fun b cs fz _ hc=>hb.block b (block_lt hc)⟩,h3,h4,Nat.le_trans h5 hb.size⟩
theorem own_ne {V V':World} {row:Option Nat} {B:Nat} (hg:V.grownBy V' row) (hr:∀ r,row=some r→B≤r∧∃ ob:Obj,V.heap[r]?=some ob∧ob.isCells=false) (b:Nat) (cs:Array Value) (t:TypeId) (fz:Nat×Nat) (hb:V.heap[b]?=some (.cells cs t fz)):V'.heap[b]?=V.heap[b]?:=hg.block b (block_lt hb) (fun e=>by
  obtain⟨_,ob,h6,h7⟩:=hr b e.symm
  rw[hb] at h6
  cases h6
  cases h7)
theorem UcB.own {B:Nat} {w V V':World} {most:Int} {o:Nat} {v:Value} {row:Option Nat} (hB:w.heap.size≤B) (h:UcB w most o v V) (hg:V.grownBy V' row) (hr:∀ r,row=some r→B≤r∧∃ ob:Obj,V.heap[r]?=some ob∧ob.isCells=false):UcB w most o v V':=by
 have hne:=own_ne hg hr
 exact⟨(hne _ _ _ _ h.b0).trans h.b0,(hne _ _ _ _ h.b1).trans h.b1,(hne _ _ _ _ h.b2).trans h.b2,(hne _ _ _ _ h.b3).trans h.b3,(hne _ _ _ _ h.b4).trans h.b4,h.bl.grown hg (by have:=h.sz; omega) (fun q hq=>Nat.le_trans hB (hr q hq).1),Nat.le_trans h.sz hg.size⟩
theorem ucI_own {B:Nat} {w:World} {most:Int} {n o:Nat} {f:Nat→Int} {Bs:Nat} (hB:w.heap.size≤B):OwnFrom B (UcI w most n o f Bs):=fun k V V' row hs hg hr=>by
 obtain⟨⟨v,h1,h2⟩,h3,h4,h5⟩:=hs
 exact⟨⟨v,h1.own hB hg hr,own_kept h2 fun b cs fz _ hc=>own_ne hg hr b cs _ fz hc⟩,h3,h4,Nat.le_trans h5 hg.size⟩
def UcX (w:World) (most:Int) (n o N:Nat) (f:Nat→Int) (X:World):Prop:=(∃ v,UcB w most o v X)∧∃ k,k < N∧¬ f (n * k+o)=most
theorem ucX_own {B:Nat} {w:World} {most:Int} {n o N:Nat} {f:Nat→Int} (hB:w.heap.size≤B):OwnFrom B (fun (_:Nat) X=>UcX w most n o N f X):=fun k V V' row hs hg hr=>by
 obtain⟨⟨v,h1⟩,h2⟩:=hs
 exact⟨⟨v,h1.own hB hg hr⟩,h2⟩
theorem wp_unc_range {T:Array Value} {assign body:Code} {Q:Exit→Act→World→Prop} {W:World} {gf:Nat} {lb:Array Value} (v:Nat→Value) (N:Nat) (Kp:World→World→Prop)
  (hg:({ tmps:=T,defers:=[] }:Act).eval (.tmp 15)=.func (.func gf) #[] lb) (eg:∀ args w,(callFunc gf args).run Tryz.prog w=.ok (.enter gf args) w) (hseq:TellsEarly gf lb (fun k=>#[v k]) N Kp W)
  (hKt:∀ {A B C:World},Kp A B→Kp B C→Kp A C) (hKp:∀ (X:World) (i:Nat) (o:Obj),W.heap.size≤i→Kp X (X.putObj i o)) (hKa:∀ (X:World) (o:Obj),W.heap.size≤X.heap.size→Kp X (X.alloc o))
  (I:Nat→World→Prop) (hI:OwnFrom W.heap.size I) (hId:∀ k X n,I k X→I k (X.drewN n)) (h0:I 0 W) (Ix:World→Prop) (hIx:OwnFrom W.heap.size fun (_:Nat) X=>Ix X) (hIxd:∀ X n,Ix X→Ix (X.drewN n))
  (hassign:∀ (l k:Nat) (X:World) (K:Act→World→Prop),K { tmps:=(T.setIfInBounds 16 (v k)).setIfInBounds 10 (v k),defers:=[] } X→assign.wpIn (Fence.wide.inRound l) 4 Tryz.prog (Exit.then K (fun _ _ _=>False)) { tmps:=T.setIfInBounds 16 (v k),defers:=[] } X)
  (hbody:∀ (l k:Nat) (X:World),k < N→I k X→body.wpIn (Fence.wide.inRound l) 4 Tryz.prog (fun e _ Y=>(e=.normal∧KeepsFrom W.heap.size X Y∧Kp X Y∧I (k+1) Y)∨(e=.ret∧KeepsFrom W.heap.size X Y∧Ix Y)) { tmps:=(T.setIfInBounds 16 (v k)).setIfInBounds 10 (v k),defers:=[] } X)
  (hdone:∀ (X:World),I N X→X.heap[W.heap.size]?=some (.deferred (some []))→Q .normal { tmps:=T,defers:=[{ target:=.collected W.heap.size,args:=#[] }] } X)
  (hstop:∀ (X:World),Ix X→X.heap[W.heap.size]?=some (.deferred (some []))→Code.ret.wp Tryz.prog Q { tmps:=T,defers:=[{ target:=.collected W.heap.size,args:=#[] }] } X):
  (Code.rangeFunc (.tmp 15) #[16] assign body).wp Tryz.prog Q { tmps:=T,defers:=[] } W:=by
 refine wp_range_early (fun k=>#[v k]) N Kp hg eg (fun _=>rfl) hseq hKt hKp hKa I hI hId h0 Ix hIx hIxd (fun k=>{ tmps:=(T.setIfInBounds 16 (v k)).setIfInBounds 10 (v k),defers:=[] }) ?_ hbody hdone hstop
 intro l k X K hK
 refine Eq.mp (congrArg (fun T'=>Code.wpIn (Fence.wide.inRound l) 4 Tryz.prog assign (Exit.then K fun _ _ _=>False) { tmps:=T',defers:=[] } X) ?_) (hassign l k X K hK)
 simp
theorem unc_leave {D B:Nat} {X:World} {T:Array Value} {v u:Value} {R:Ending→World→Prop} (hK:X.heap[D]?=some (.deferred (some []))) (hT:T.getD 6 undef=.pointer (some ⟨B+1,0,none⟩)) (hU:T.getD 7 undef=.pointer (some ⟨B+1+1,0,none⟩)) (hv:X.heap[B+1]?=some (.cells #[v] 25 (0,0))) (hu:X.heap[B+1+1]?=some (.cells #[u] 4 (0,0))) (hR:R (.returned (.tuple #[v,u])) (X.putObj D (.deferred none))):
  LeavesInM Fence.wide 6 Tryz.prog Tryz.f38 T R [{ target:=.collected D,args:=#[] }] .returning X:=by
 refine⟨by simp,.inl ⟨_,_,rfl,run_takeDeferred hK,?_⟩⟩
 refine⟨.tuple #[v,u],?_,hR⟩
 have hT':T[6]?.getD undef=.pointer (some ⟨B+1,0,none⟩):=by
  rw[← hT]
  simp
 have hU':T[7]?.getD undef=.pointer (some ⟨B+1+1,0,none⟩):=by
  rw[← hU]
  simp
 have hv':(X.putObj D (.deferred none)).cell? ⟨B+1,0,none⟩=some v:=(cell_of_block ((World.putObj_heap_other (fun e=>by rw [e,hK] at hv; cases hv)).trans hv) 0).trans rfl
 have hu':(X.putObj D (.deferred none)).cell? ⟨B+1+1,0,none⟩=some u:=(cell_of_block ((World.putObj_heap_other (fun e=>by rw [e,hK] at hu; cases hu)).trans hu) 0).trans rfl
 simp[results,Tryz.results38,go_sem,hT',hU',hv',hu']
def UncPost (n o N:Nat) (f:Nat→Int) (most:Int) (w:World) (e:Ending) (w':World):Prop:=∃ ok a m c,e=.returned (.tuple #[.slice a m c,.bool ok])∧(ok=true↔∀ k,k < N→f (n * k+o)=most)∧(ok=true→m=o * N∧SL w' w.heap.size a (o * N) c (tkF n 0 o f)∧o * N≤c∧c≤maxLen)∧Below w.heap.size w w'
set_option maxRecDepth 100000 in
set_option maxHeartbeats 4000000 in
theorem unc_any (g off n o N cap:Nat) (f:Nat→Int) (most:Int) (w:World) (hno:n=o+1) (h1:1≤o) (h4:n≤4) (hN:N≤1000) (hcap:n * N≤cap) (hg:g < w.heap.size) (hc:∀ j,j < n * N→w.cell? ⟨g,off+j,none⟩=some (.int .i64 (f j))):
  Calls Tryz.prog 38 #[.slice (some ⟨g,off,none⟩) (n * N) cap,.int .i64 (n:Int),.int .i64 most] w (UncPost n o N f most w):=by
 have hcap:=hcap
 have H0:Hid (UcB w most o (.slice none 0 0) (((((w.alloc (.cells #[.int .i64 most] 3)).alloc (.cells #[.slice none 0 0] 25)).alloc (.cells #[.bool false] 4)).alloc (.cells #[.slice none 0 0] 25)).alloc (.cells #[.int .i64 (o:Int)] 3))):=UcB.start w most o
 have HC:=hid_of hc
 have HNO:=hid_of hno
 have hn1:1≤n:=by omega
 have en:(n:Int) - 1=(o:Int):=by omega
 have wn:IntKind.i64.wrap ((n:Int) - 1)=(o:Int):=by rw [IntKind.wrap_i64]; omega
 clear hc hno
 refine calls_of_marks Tryz.func38 rfl ?_
 simp only [Tryz.ntmps38,List.size_toArray,List.length_cons,List.length_nil,Nat.reduceAdd,Nat.reduceSub,Array.replicate_succ,Array.replicate_zero,List.push_toArray,List.append_toArray,List.nil_append,List.cons_append]
 go_wp2_with fail
 refine (chunkI_any (some ⟨g,off,none⟩) (n * N) cap n _ hn1).mono ?_
 rintro e u2 ⟨rfl,h2⟩
 generalize (((((w.alloc (.cells #[.int .i64 most] 3)).alloc (.cells #[.slice none 0 0] 25)).alloc (.cells #[.bool false] 4)).alloc (.cells #[.slice none 0 0] 25)).alloc (.cells #[.int .i64 (o:Int)] 3))=u1 at H0 h2 ⊢
 have hb2:Below u1.heap.size u1 u2:=by rw [h2]; exact bal (bstart _ _) _
 have hBs:u2.cell? ⟨u1.heap.size,0,none⟩=some (.slice (some ⟨g,off,none⟩) (n * N) cap):=by rw [h2]; exact (grow_cell _ (by simp) 0).trans ((cell_of_block (heap_alloc_new u1 _) 0).trans rfl)
 have hBn:u2.cell? ⟨u1.heap.size+1,0,none⟩=some (.int .i64 (n:Int)):=by
  rw[h2]
  have h:=heap_alloc_new (u1.alloc (.cells #[.slice (some ⟨g,off,none⟩) (n * N) cap] 25)) (.cells #[.int .i64 (n:Int)] 3)
  rw[World.size_alloc] at h
  exact (cell_of_block h 0).trans rfl
 have hz2:u2.heap.size=u1.heap.size+2:=by rw [h2]; simp
 have H2:Hid (UcI w most n o f u2.heap.size 0 u2):=⟨⟨_,H0.out.called hb2,by rw [Nat.mul_zero]; exact⟨rfl,.inl ⟨rfl,rfl⟩⟩⟩,fun j hj=>absurd hj (Nat.not_lt_zero j),by have:=H0.out.sz; omega,Nat.le_refl _⟩
 have HZ1:Hid (w.heap.size+5≤u1.heap.size):=H0.out.sz
 have HBs:=hid_of hBs
 have HBn:=hid_of hBn
 clear h2 hb2 hBs hBn H0
 generalize u1.heap.size=D at HBs HBn hz2 HZ1 ⊢
 go_wp2_with fail
 refine wp_unc_range (fun k=>.slice (some ⟨g,off+n * k,none⟩) n n) N (BothI D (D+1)) (by simp [Act.eval]) (enters_of Tryz.func107 (by kernel_rfl) rfl) (chunkE_tells D (D+1) g off n N cap hn1 h4 (by omega) hcap u2 HBs.out HBn.out) (fun h k=>⟨k.1.trans h.1,k.2.trans h.2⟩) (fun X i o hi=>⟨World.putObj_heap_other (by omega),World.putObj_heap_other (by omega)⟩) (fun X o hX=>⟨(bstart X o).block _ (by omega),(bstart X o).block _ (by omega)⟩) (UcI w most n o f u2.heap.size) (ucI_own (by have:=HZ1.out; omega)) (fun k X n h=>h.called (bdraws (Below.refl _ _) n)) H2.out (UcX w most n o N f) (ucX_own (by have:=HZ1.out; omega)) (fun X n h=>⟨h.1.elim fun v q=>⟨v,q.called (bdraws (Below.refl _ _) n)⟩,h.2⟩) ?_ ?_ ?_ ?_
 ·intro l k V K hK
  simp only [zsa,zsc,zsb] at hK ⊢
  gi_wp2
  exact hK
 ·have HZ2:=hid_of hz2
  clear hz2
  intro l k X hk hPI
  simp only [zsa,zsc,zsb]
  obtain⟨⟨v,hB,hrow⟩,hall,hz3,hz4⟩:=hPI
  have hkn:n * k+o < n * N:=by
   have h2:=Nat.mul_le_mul_left n (show k+1≤N from hk)
   rw[Nat.mul_succ] at h2
   have:=HNO.out
   omega
  have cn:X.cell? ⟨g,off+n * k+o,none⟩=some (.int .i64 (f (n * k+o))):=by
   have h2:=(hB.bl.cell (p:=⟨g,off+(n * k+o),none⟩) hg).trans (HC.out _ hkn)
   rw[← Nat.add_assoc] at h2
   exact h2
  have io:(o:Int) < (n:Int):=by have:=HNO.out; omega
  have io2:o < n:=by have:=HNO.out; omega
  have io3:¬ n < o:=by omega
  have io4:¬ (n:Int) < (o:Int):=by omega
  have io5:(o:Int)≤(n:Int):=by omega
  have hok:o * k≤4000:=by
   have:=Nat.mul_le_mul (show o≤4 by omega) (show k≤1000 by omega)
   omega
  have HB:=hid_of hB
  have HRow:=hid_of hrow
  have HAll:=hid_of hall
  clear hB hrow hall
  gi_wp2
  refine region_round (S:=fun Y=>Y=X.drew) (by simp) (by
   rintro⟨_,_,h⟩
   rcases h with h | h
   ·exact absurd (show Exit.outgrown=Exit.normal from h.1) (by simp)
   ·exact absurd (show Exit.outgrown=Exit.ret from h.1) (by simp)) ?_
  have HB0:Hid (UcB w most o v X.drew):=HB.out.called (bdraws (Below.refl _ _) 1)
  have cn0:X.drew.cell? ⟨g,off+n * k+o,none⟩=some (.int .i64 (f (n * k+o))):=cn
  have HXK:Hid (KeepsFrom u2.heap.size X X.drew∧BothI D (D+1) X X.drew∧X.drew.ownsRow u2.heap.size 3 1 v (o * k) (fints (tkF n 0 o f) (o * k))∧u2.heap.size≤X.drew.heap.size):=⟨⟨(bdraws (Below.refl X.heap.size X) 1).size,fun b ob _ hk _=>hk⟩,⟨rfl,rfl⟩,HRow.out,hz4⟩
  have HSx:(fun Y=>Y=X.drew) X.drew:=rfl
  generalize X.drew=u0 at HB0 cn0 HXK HSx ⊢
  clear cn HB HRow
  have lg:g < u0.heap.size:=Nat.lt_of_lt_of_le hg HB0.out.bl.size
  generalize hfv:f (n * k+o)=fv at cn0
  have HFV:=hid_of hfv
  clear hfv
  refine zqt 0 (.slice (some ⟨g,off+n * k,none⟩) n n) rfl ?_ HSx ?_
  ·intro w' _
   go_simp
  simp only [Act.put,zga,zgb,zsa,zsb,zsc]
  refine zqt 1 (.int .i64 (o:Int)) rfl ?_ HSx ?_
  ·intro w' hS
   subst hS; have c0:=(cell_of_block HB0.out.b0 0).trans rfl; have c4:=(cell_of_block HB0.out.b4 0).trans rfl; have l0:=block_lt HB0.out.b0; have l4:=block_lt HB0.out.b4
   go_simp
  simp only [Act.put,zga,zgb,zgc,zsa,zsb,zsc]
  refine zqt 2 (.pointer (some ⟨g,off+n * k+o,none⟩)) rfl ?_ HSx ?_
  ·intro w' _
   go_simp
  simp only [Act.put,zga,zgb,zgc,zsa,zsb,zsc]
  refine zqt 3 (.int .i64 fv) rfl ?_ HSx ?_
  ·intro w' hS
   subst hS; have c0:=(cell_of_block HB0.out.b0 0).trans rfl; have c4:=(cell_of_block HB0.out.b4 0).trans rfl; have l0:=block_lt HB0.out.b0; have l4:=block_lt HB0.out.b4
   go_simp
  simp only [Act.put,zga,zgb,zgc,zsa,zsb,zsc]
  refine zqt 4 (.int .i64 most) rfl ?_ HSx ?_
  ·intro w' hS
   subst hS; have c0:=(cell_of_block HB0.out.b0 0).trans rfl; have c4:=(cell_of_block HB0.out.b4 0).trans rfl; have l0:=block_lt HB0.out.b0; have l4:=block_lt HB0.out.b4
   go_simp
  simp only [Act.put,zga,zgb,zgc,zsa,zsb,zsc]
  by_cases hv:fv=most
  ·have nv:(fv != most)=false:=by simpa using hv
   have HFM:Hid (f (n * k+o)=most):=HFV.out.trans hv
   clear hv cn0
   refine zqt 5 (.bool false) rfl ?_ HSx ?_
   ·intro w' _
    go_simp
   simp only [Act.put,zga,zgb,zgc,zsa,zsb,zsc]
   refine wpAnyH_done (by kernel_rfl) ?_ _
   clear nv HSx
   gi_wp2
   refine region_round (S:=fun Y=>Y.heap[w.heap.size+1+1+1+1]?=some (.cells #[.int .i64 (o:Int)] 3 (0,0))) (by simp) (by
    rintro⟨_,_,h⟩
    rcases h with h | h
    ·exact absurd (show Exit.outgrown=Exit.normal from h.1) (by simp)
    ·exact absurd (show Exit.outgrown=Exit.ret from h.1) (by simp)) ?_
   have HB1:Hid (UcB w most o v u0.drew):=HB0.out.called (bdraws (Below.refl _ _) 1)
   have HXK1:Hid (KeepsFrom u2.heap.size X u0.drew∧BothI D (D+1) X u0.drew∧u0.drew.ownsRow u2.heap.size 3 1 v (o * k) (fints (tkF n 0 o f) (o * k))∧u2.heap.size≤u0.drew.heap.size):=⟨HXK.out.1.trans ⟨(bdraws (Below.refl u0.heap.size u0) 1).size,fun b ob _ hk _=>hk⟩,HXK.out.2⟩
   have HS4:u0.drew.heap[w.heap.size+1+1+1+1]?=some (.cells #[.int .i64 (o:Int)] 3 (0,0)):=HB1.out.b4
   generalize u0.drew=V2 at HB1 HXK1 HS4 ⊢
   clear HB0 HXK lg
   have hS0:(fun Y:World=>Y.heap[w.heap.size+1+1+1+1]?=some (.cells #[.int .i64 (o:Int)] 3 (0,0))) V2:=HS4
   refine zqt 1 (.slice (some ⟨g,off+n * k,none⟩) n n) rfl ?_ hS0 ?_
   ·intro w' _
    go_simp
   simp only [Act.put,zga,zgb,zgc,zsa,zsb,zsc]
   refine zqt 2 (.int .i64 (o:Int)) rfl ?_ hS0 ?_
   ·intro w' hS
    have c4:=(cell_of_block hS 0).trans rfl; have l4:=block_lt hS
    go_simp
   simp only [Act.put,zga,zgb,zgc,zsa,zsb,zsc]
   refine zqt 3 (.slice (some ⟨g,off+n * k,none⟩) o n) rfl ?_ hS0 ?_
   ·intro w' _
    go_simp
   simp only [Act.put,zga,zgb,zgc,zsa,zsb,zsc]
   have c3:=(cell_of_block HB1.out.b3 0).trans rfl
   have l3:=block_lt HB1.out.b3
   refine zqr 0 rfl (fun K1 hK=>?_)
   refine if_wanted (wanted_none rfl) ?_
   simp only [zga,zgb]
   go_simp
   refine hK.out _ _ hS0 (fun _=>?_)
   clear hK
   obtain⟨t0,hi0,hz0,hz1,hz2⟩:=info_parts info_int18
   have i3:=HXK1.out.2.2.1
   have hnews:∀ (j:Nat) (y:Value),(fints (fun i=>f (n * k+0+i)) o)[j]?=some y→V2.cell? ((⟨g,off+n * k,none⟩:Addr).add j)=some y:=fun j y hy=>by
    have hj:j < o:=by
     rcases Nat.lt_or_ge j o with q | q
     ·exact q
     ·rw[List.getElem?_eq_none (by rw [fints_length]; exact q)] at hy; cases hy
    rw[List.getElem?_eq_getElem (by rw [fints_length]; exact hj),fints_get] at hy
    have hlt:n * k+j < n * N:=by omega
    have h2:=(HB1.out.bl.cell (p:=⟨g,off+(n * k+j),none⟩) hg).trans (HC.out _ hlt)
    rw[Addr.add_lit,Nat.add_assoc,h2,← Option.some.inj hy,Nat.add_zero]
   obtain⟨v2,V3,hr,a2,a3,_,_⟩:=run_append_own_at (P:=Tryz.prog) V2 u2.heap.size 25 25 3 t0 (.int .i64 0) 1 8 Tryz.underlying25 hi0 hz0 hz1 hz2 rfl (by omega) v (o * k) _ i3 ⟨g,off+n * k,none⟩ o n (fints (fun i=>f (n * k+0+i)) o) (by rw [fints_length,Nat.mul_one]) hnews (fun u hu=>by
    unfold fints at hu
    obtain⟨x,_,rfl⟩:=List.mem_map.mp hu
    rfl) (by unfold maxLen; omega) (by omega) HXK1.out.2.2.2
   obtain⟨va,vl,vc,rfl⟩:∃ a l c,v2=.slice a l c:=by
    rcases a2.2 with ⟨h,_⟩ | ⟨_,_,_,h,_⟩
    ·exact⟨_,_,_,h⟩
    ·exact⟨_,_,_,h⟩
   have hrow:∀ b,v.ownBlock=some b→u2.heap.size≤b:=fun b hb=>(i3.lt b hb).1
   have j3:V3.heap[w.heap.size+1+1+1]?=some (.cells #[v] 25 (0,0)):=(a3.block _ l3 (fun e=>by have:=hrow _ e.symm; have:=HZ1.out; have:=HZ2.out; omega)).trans HB1.out.b3
   have HJ3:=hid_of j3
   have d0:V3.cell? ⟨w.heap.size+1+1+1,0,none⟩=some v:=(cell_of_block j3 0).trans rfl
   have df:∀ k,V3.frozen? ⟨w.heap.size+1+1+1,k,none⟩=false:=unfrozen_of_block j3
   have dl:=block_lt j3
   have HA2:=hid_of a2
   have HA3:=hid_of a3
   have HROW:=hid_of hrow
   have HOWN:Hid (∀ b,v.ownBlock=some b→∃ cs,V2.heap[b]?=some (.cells cs 3 (0,0))):=fun b hb=>by
    rcases i3.2 with ⟨h,_⟩ | ⟨g1,cap,cur,h,_,q2,_⟩
    ·rw[h] at hb; simp [Value.ownBlock] at hb
    ·rw[h] at hb
     simp[Value.ownBlock] at hb
     exact⟨cur,hb ▸ q2⟩
   have HS5:V3.heap[w.heap.size+1+1+1+1]?=some (.cells #[.int .i64 (o:Int)] 3 (0,0)):=(a3.block _ (block_lt HS4) (fun e=>by have:=hrow _ e.symm; have:=HZ1.out; have:=HZ2.out; omega)).trans HS4
   clear i3 j3 a2 a3 hrow hi0 hz0 hz1 hz2 hnews c3 l3
   refine zqr 4 rfl (fun K1 hK=>?_)
   refine if_wanted (wanted_none rfl) ?_
   simp only [zga,zgb,zgc]
   refine step_append_run (.tmp 23) (.tmp 26) 25 rfl v (.slice (some ⟨g,off+n * k,none⟩) o n) (by simp [Act.eval]) (by simp [Act.eval]) hr ?_
   refine hK.out _ _ HS5 (fun _=>?_)
   simp only [Act.put,zsa,zsb,zsc]
   clear hK
   refine zqr 5 rfl (fun K1 hK=>?_)
   refine if_wanted (wanted_none rfl) ?_
   simp only [zga,zgb,zgc]
   go_simp
   refine hK.out _ _ (by
    show _=_
    rw[Below.heap_setCell _ _ _ _ (by show w.heap.size+1+1+1+1≠w.heap.size+1+1+1; omega)]
    exact HS5) (fun _=>?_)
   clear hK
   refine wpAnyH_done (by kernel_rfl) ?_ _
   have hz1:=HZ1.out
   have hz2:=HZ2.out
   have hW:∀ b,b≠w.heap.size+1+1+1→b < V2.heap.size→v.ownBlock≠some b→(V3.setCell ⟨w.heap.size+1+1+1,0,none⟩ (.slice va vl vc)).heap[b]?=V2.heap[b]?:=fun b h1 h2 h3=>(Below.heap_setCell _ _ _ _ h1).trans (HA3.out.block _ h2 (fun e=>h3 e.symm))
   have hsz:V2.heap.size≤(V3.setCell ⟨w.heap.size+1+1+1,0,none⟩ (.slice va vl vc)).heap.size:=by have:=HA3.out.size; simpa using this
   have hno:∀ b,b < u2.heap.size→v.ownBlock≠some b:=fun b h e=>by have:=HROW.out _ e; omega
   have hzV:=HXK1.out.2.2.2
   refine .inl ⟨rfl,HXK1.out.1.trans ⟨hsz,fun b ob hb hk2 ho=>?_⟩,⟨(hW D (by omega) (by omega) (hno D (by omega))).trans HXK1.out.2.1.1,(hW (D+1) (by omega) (by omega) (hno (D+1) (by omega))).trans HXK1.out.2.1.2⟩,⟨.slice va vl vc,⟨?_,?_,?_,?_,?_,?_,?_⟩,?_⟩,?_,by omega,by omega⟩
   ·rw[hW b (by omega) (block_lt hk2) (fun e=>by
     obtain⟨cs,h⟩:=HOWN.out b e
     rw[hk2] at h
     cases h
     cases ho)]
    exact hk2
   ·exact (hW _ (by omega) (block_lt HB1.out.b0) (hno _ (by omega))).trans HB1.out.b0
   ·exact (hW _ (by omega) (block_lt HB1.out.b1) (hno _ (by omega))).trans HB1.out.b1
   ·exact (hW _ (by omega) (block_lt HB1.out.b2) (hno _ (by omega))).trans HB1.out.b2
   ·have q:=HJ3.out
    simp[World.setCell,Array.getElem?_modify,q]
   ·exact (hW _ (by omega) (block_lt HB1.out.b4) (hno _ (by omega))).trans HB1.out.b4
   ·exact (HB1.out.bl.grown HA3.out (by have:=HB1.out.sz; omega) (fun b hb=>by have:=HROW.out _ hb; omega)).setCell (p:=⟨w.heap.size+1+1+1,0,none⟩) (by simp; omega) _
   ·exact Nat.le_trans HB1.out.sz hsz
   ·rw[fints_tk,Nat.mul_succ]
    exact own_kept HA2.out fun b cs fz hb _=>Below.heap_setCell _ _ _ _ (by show b≠w.heap.size+1+1+1; omega)
   ·intro j hj
    by_cases e:j=k
    ·rw[e]; exact HFM.out
    ·exact HAll.out j (by omega)
  ·have nv:(fv != most)=true:=by simpa using hv
   have HFM:Hid (¬ f (n * k+o)=most):=fun e=>hv (HFV.out.symm.trans e)
   clear hv cn0
   refine zqt 5 (.bool true) rfl ?_ HSx ?_
   ·intro w' _
    go_simp
   simp only [Act.put,zga,zgb,zgc,zsa,zsb,zsc]
   refine wpAnyH_done (by kernel_rfl) ?_ _
   clear nv HSx
   have c1:=(cell_of_block HB0.out.b1 0).trans rfl
   have c2:=(cell_of_block HB0.out.b2 0).trans rfl
   have f1:∀ k,u0.frozen? ⟨w.heap.size+1,k,none⟩=false:=unfrozen_of_block HB0.out.b1
   have f2:∀ k,u0.frozen? ⟨w.heap.size+1+1,k,none⟩=false:=unfrozen_of_block HB0.out.b2
   have l1:=block_lt HB0.out.b1
   have l2:=block_lt HB0.out.b2
   gi_wp2
   refine⟨HXK.out.1.trans ⟨by simp,fun b ob hb hk2 _=>?_⟩,⟨v,HB0.out.again⟩,k,hk,HFM.out⟩
   have:=HZ1.out
   have:=HZ2.out
   rw[Below.heap_setCell _ _ _ _ (by show b≠w.heap.size+1+1; omega),Below.heap_setCell _ _ _ _ (by show b≠w.heap.size+1; omega)]
   exact hk2
 ·have HZ2:=hid_of hz2
  clear hz2
  intro X hPI hD
  obtain⟨⟨v,hB,hrow⟩,hall,hz3,hz4⟩:=hPI
  obtain⟨va,vc,rfl,hva⟩:∃ a c,v=.slice a (o * N) c∧(∀ W:World,(∀ (b:Nat) (cs:Array Value) (fz:Nat×Nat),X.heap[b]?=some (.cells cs 3 fz)→W.heap[b]?=X.heap[b]?)→SL W w.heap.size a (o * N) c (tkF n 0 o f)∧o * N≤c∧c≤maxLen):=by
   rcases hrow.2 with ⟨e,h⟩ | ⟨g1,cap1,cur,e,q1,q2,q3,q4,q5,q6⟩
   ·refine⟨none,0,by rw [e,h],fun W _=>⟨.inl h,by omega,by unfold maxLen; omega⟩⟩
   ·refine⟨_,cap1,e,fun W hW=>⟨.inr ⟨g1,rfl,cap1,cur,(0,0),?_,by have:=HZ1.out; have:=HZ2.out; omega,(hW _ _ _ q2).trans q2,.inl rfl,?_,q4,?_,?_⟩,q3,q4⟩⟩
    ·rw[fints_length]
    ·rw[fints_length]; exact q3
    ·simpa using q5
    ·rw[fints_length]; simpa using q6
  have c3:=(cell_of_block hB.b3 0).trans rfl
  have c1:=(cell_of_block hB.b1 0).trans rfl
  have c2:=(cell_of_block hB.b2 0).trans rfl
  have f1:∀ k,X.frozen? ⟨w.heap.size+1,k,none⟩=false:=unfrozen_of_block hB.b1
  have f2:∀ k,X.frozen? ⟨w.heap.size+1+1,k,none⟩=false:=unfrozen_of_block hB.b2
  have l1:=block_lt hB.b1
  have l2:=block_lt hB.b2
  have l3:=block_lt hB.b3
  have HB:=hid_of hB
  have HVA:=hid_of hva
  have HALL:=hid_of hall
  have HD:=hid_of hD
  clear hB hva hrow hall hD hz3 hz4
  go_wp2_with fail
  have hz1:=HZ1.out
  have hz2:=HZ2.out
  have hoth:∀ b,b≠w.heap.size+1→b≠w.heap.size+1+1→((X.setCell ⟨w.heap.size+1,0,none⟩ (.slice va (o * N) vc)).setCell ⟨w.heap.size+1+1,0,none⟩ (.bool true)).heap[b]?=X.heap[b]?:=fun b h1 h2=>by
   rw[Below.heap_setCell _ _ _ _ h2,Below.heap_setCell _ _ _ _ h1]
  have hv1:((X.setCell ⟨w.heap.size+1,0,none⟩ (.slice va (o * N) vc)).setCell ⟨w.heap.size+1+1,0,none⟩ (.bool true)).heap[w.heap.size+1]?=some (.cells #[.slice va (o * N) vc] 25 (0,0)):=by
   rw[Below.heap_setCell _ _ _ _ (by show w.heap.size+1≠w.heap.size+1+1; omega)]
   simp[World.setCell,Array.getElem?_modify,HB.out.b1]
  have hu1:((X.setCell ⟨w.heap.size+1,0,none⟩ (.slice va (o * N) vc)).setCell ⟨w.heap.size+1+1,0,none⟩ (.bool true)).heap[w.heap.size+1+1]?=some (.cells #[.bool true] 4 (0,0)):=by
   have q:(X.setCell ⟨w.heap.size+1,0,none⟩ (.slice va (o * N) vc)).heap[w.heap.size+1+1]?=some (.cells #[.bool false] 4 (0,0)):=by rw [Below.heap_setCell _ _ _ _ (by show w.heap.size+1+1≠w.heap.size+1; omega)]; exact HB.out.b2
   generalize X.setCell ⟨w.heap.size+1,0,none⟩ (.slice va (o * N) vc)=u1 at q ⊢
   simp[World.setCell,Array.getElem?_modify,q]
  have hbl:=(HB.out.bl.setCell (p:=⟨w.heap.size+1,0,none⟩) (by simp) (.slice va (o * N) vc)).setCell (p:=⟨w.heap.size+1+1,0,none⟩) (by simp; omega) (.bool true)
  generalize ((X.setCell ⟨w.heap.size+1,0,none⟩ (.slice va (o * N) vc)).setCell ⟨w.heap.size+1+1,0,none⟩ (.bool true))=X1 at hoth hv1 hu1 hbl ⊢
  have hD1:X1.heap[u2.heap.size]?=some (.deferred (some [])):=(hoth _ (by omega) (by omega)).trans HD.out
  refine unc_leave (B:=w.heap.size) hD1 (by simp) (by simp) hv1 hu1 ⟨true,va,o * N,vc,rfl,⟨fun _=>HALL.out,fun _=>rfl⟩,fun _=>⟨rfl,?_⟩,hbl.grown (grownBy_putObj' X1 _ _) (by have:=block_lt hu1; omega) (fun j q=>by cases q; omega)⟩
  exact HVA.out _ fun b cs fz hb=>(World.putObj_heap_other (fun e=>by rw [e,HD.out] at hb; cases hb)).trans (hoth b (fun e=>by rw [e,HB.out.b1] at hb; cases hb) (fun e=>by rw [e,HB.out.b2] at hb; cases hb))
 ·have HZ2:=hid_of hz2
  clear hz2
  intro X hX hD
  obtain⟨⟨v,hB⟩,k,hk,hne⟩:=hX
  have HB:=hid_of hB
  have HD:=hid_of hD
  have HN:=hid_of hne
  clear hB hD hne
  go_wp2_with fail
  have hz1:=HZ1.out
  have hz2:=HZ2.out
  exact unc_leave (B:=w.heap.size) HD.out (by simp) (by simp) HB.out.b1 HB.out.b2 ⟨false,_,_,_,rfl,⟨fun e=>(by cases e),fun h=>absurd (h k hk) HN.out⟩,fun e=>(by cases e),HB.out.bl.grown (grownBy_putObj' X _ _) (by have:=HB.out.sz; omega) (fun j q=>by cases q; omega)⟩
end Go.Proofs.YtkpbfmdnjnohlaaGreat
