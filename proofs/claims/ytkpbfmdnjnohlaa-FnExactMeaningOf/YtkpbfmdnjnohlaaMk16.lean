/-
  Texts of the proof, put together.
-/
import Derived.Test.YtkpbfmdnjnohlaaMk15
namespace Go.Proofs.Ytkpbfmdnjnohlaa
section
open Go.RowKit Go.Joins ChunkMath
structure MeanSL (w:World) (base:Nat) (m:Mea) (q:MeaA):Prop where
 p:SL w base q.pa m.pn q.pc m.P
 k:KSL w base q.ka m.kn m.K
theorem MeanSL.called {w w':World} {base:Nat} {m:Mea} {q:MeaA} (h:MeanSL w base m q) (hb:Below w.heap.size w w'):MeanSL w' base m q:=⟨h.p.called hb,h.k.called hb⟩
theorem MeanSL.lie {w:World} {base:Nat} {m:Mea} {q:MeaA} (h:MeanSL w base m q):MeanIn w m q:=⟨h.p.came,h.k.came⟩
def mrk (k:Nat) (m:Mea):Mea:=⟨m.mw,m.mh,m.pn,fun j=>(k:Int)+j,m.kn,mkd (k+m.pn)⟩
set_option maxRecDepth 100000 in
set_option maxHeartbeats 1600000 in
theorem heldMean_any (m:Mea) (q:MeaA) (k:Nat) (w:World) (h:MeanIn w (mrk k m) q) (hZ:MeanSz m) (hk:k≤1000):
  Calls Try.prog 14 #[meanV m q,.int .i64 (k:Int)] w fun e w'=>e=.returned (.int .i64 ((k+m.pn+2 * m.kn:Nat):Int))∧Below w.heap.size w w':=by
 obtain⟨mw,mh,pn,P,kn,K⟩:=m
 obtain⟨pa,pc,ka,kc⟩:=q
 have HP:Hid (Came w pa pn (fun j=>(k:Int)+j)):=hid_of h.p
 have HK:Hid (KCame w ka kn (mkd (k+pn))):=hid_of h.k
 have hp':pn≤1048576:=hZ.p
 have hk':kn≤1048576:=hZ.k
 clear h hZ
 have H0:Hid (Below w.heap.size w (w.alloc (.cells #[.int .i64 mw,.int .i64 mh,.slice pa pn pc,.slice ka kn kc] 34))∧(w.alloc (.cells #[.int .i64 mw,.int .i64 mh,.slice pa pn pc,.slice ka kn kc] 34)).heap[w.heap.size]?=some (.cells #[.int .i64 mw,.int .i64 mh,.slice pa pn pc,.slice ka kn kc] 34 (0,0))):=⟨bstart _ _,heap_alloc_new _ _⟩
 show Calls Try.prog 14 #[.agg #[.int .i64 mw,.int .i64 mh,.slice pa pn pc,.slice ka kn kc],.int .i64 (k:Int)] w _
 go_enter Try.func14,Try.ntmps14
 go_wp2_with fail
 refine (heldIntS_same pa pn pc (k:Int) _ (HP.out.called H0.out.1) hp' (by omega) (by omega)).mono ?_
 rintro e w1 ⟨rfl,hB⟩
 have H1:Hid (Below w.heap.size w w1∧w1.heap[w.heap.size]?=some (.cells #[.int .i64 mw,.int .i64 mh,.slice pa pn pc,.slice ka kn kc] 34 (0,0))):=⟨bnext H0.out.1 hB,(hB.block _ (block_lt H0.out.2)).trans H0.out.2⟩
 have d1:decide ((k:Int)+(pn:Int) < 0)=false:=decide_eq_false (by omega)
 have a3:=(cell_of_block H1.out.2 3).trans rfl
 have l0:=block_lt H1.out.2
 have ek:Hid ((k:Int)+(pn:Int)=((k+pn:Nat):Int)):=by show _=_; omega
 clear hB H0
 go_wp2_with fail
 rw[ek.out]
 refine (heldChunkS_same ka kn kc (k+pn) _ (HK.out.called H1.out.1) hk' (by omega)).mono ?_
 rintro e w2 ⟨rfl,hB⟩
 have H2:=hid_of (bnext H1.out.1 hB)
 have d2:decide (((k+pn+2 * kn:Nat):Int) < 0)=false:=decide_eq_false (by omega)
 clear hB H1 a3 l0 d1
 go_wp2_with fail
 go_ret
 exact⟨rfl,H2.out⟩
def MeanMarked (k base:Nat) (m:Mea) (q:MeaA) (w:World) (e:Ending) (w':World):Prop:=e=.returned (.int .i64 ((k+m.pn+2 * m.kn:Nat):Int))∧MeanSL w' base (mrk k m) q∧(∀ (B:Nat) (w0:World),Below B w0 w→B≤w.heap.size→B≤base→Below B w0 w')∧∀ (g:Nat) (cs:Array Value),w.heap[g]?=some (.cells cs 34 (0,0))→w'.heap[g]?=w.heap[g]?
theorem markInts_step (base:Nat) (a:Option Addr) (n c k:Nat) (f:Nat→Int) (w:World) (h:SL w base a n c f) (hn:n≤1048576) (hk:k≤1000000):
  Calls Try.prog 41 #[.slice a n c,.int .i64 (k:Int)] w fun e w'=>e=.returned (.int .i64 ((k+n:Nat):Int))∧SL w' base a n c (fun j=>(k:Int)+j)∧(∀ (B:Nat) (w0:World),Below B w0 w→B≤w.heap.size→B≤base→Below B w0 w')∧w.heap.size≤w'.heap.size∧(∀ (g:Nat) (cs:Array Value),w.heap[g]?=some (.cells cs 72 (0,0))→w'.heap[g]?=w.heap[g]?)∧(∀ (g:Nat) (cs:Array Value),w.heap[g]?=some (.cells cs 34 (0,0))→w'.heap[g]?=w.heap[g]?):=by
 rcases h with rfl | ⟨g,rfl,h⟩
 ·refine (markIntS_none a c (k:Int) w).mono ?_
  rintro e w' ⟨rfl,rfl⟩
  exact⟨by simp,.inl rfl,fun _ _ hb _ _=>hb,Nat.le_refl _,fun _ _ _=>rfl,fun _ _ _=>rfl⟩
 ·refine (markIntS_own base g n c f (k:Int) w h hn (by omega) (by omega)).mono ?_
  rintro e w' ⟨rfl,hO,hg⟩
  obtain⟨cap,cur,fz,_,hb,hh,_⟩:=id h
  refine⟨by simp,.inr ⟨g,rfl,hO⟩,fun B w0 hB h1 h2=>hB.grown hg h1 (fun q hq=>by cases hq; omega),hg.size,fun q cs hq=>hg.block q (block_lt hq) (fun e=>by cases e; rw [hq] at hh; cases hh),fun q cs hq=>hg.block q (block_lt hq) (fun e=>by cases e; rw [hq] at hh; cases hh)⟩
theorem markChks_step (base:Nat) (a:Option Addr) (n c k:Nat) (F:Nat→Chk) (w:World) (h:KSL w base a n F) (hn:n≤1048576) (hk:k≤10000000):
  Calls Try.prog 43 #[.slice a n c,.int .i64 (k:Int)] w fun e w'=>e=.returned (.int .i64 ((k+2 * n:Nat):Int))∧KSL w' base a n (mkd k)∧(∀ (B:Nat) (w0:World),Below B w0 w→B≤w.heap.size→B≤base→Below B w0 w')∧w.heap.size≤w'.heap.size∧(∀ (g:Nat) (cs:Array Value) (fz:Nat×Nat),w.heap[g]?=some (.cells cs 3 fz)→w'.heap[g]?=w.heap[g]?)∧(∀ (g:Nat) (cs:Array Value),w.heap[g]?=some (.cells cs 34 (0,0))→w'.heap[g]?=w.heap[g]?):=by
 rcases h with rfl | ⟨g,rfl,h⟩
 ·refine (markChunkS_none a c (k:Int) w).mono ?_
  rintro e w' ⟨rfl,rfl⟩
  exact⟨by simp,.inl rfl,fun _ _ hb _ _=>hb,Nat.le_refl _,fun _ _ _ _=>rfl,fun _ _ _=>rfl⟩
 ·refine (markChunkS_own base g n c F k w h hn hk).mono ?_
  rintro e w' ⟨rfl,hO,hg⟩
  obtain⟨hb,cur,hh,_⟩:=id h
  refine⟨rfl,.inr ⟨g,rfl,hO⟩,fun B w0 hB h1 h2=>hB.grown hg h1 (fun q hq=>by cases hq; omega),hg.size,fun q cs fz hq=>hg.block q (block_lt hq) (fun e=>by cases e; rw [hq] at hh; cases hh),fun q cs hq=>hg.block q (block_lt hq) (fun e=>by cases e; rw [hq] at hh; cases hh)⟩
theorem SL.kept {w w':World} {base:Nat} {a:Option Addr} {n c:Nat} {f:Nat→Int} (h:SL w base a n c f) (hk:∀ (g:Nat) (cs:Array Value) (fz:Nat×Nat),w.heap[g]?=some (.cells cs 3 fz)→w'.heap[g]?=w.heap[g]?):SL w' base a n c f:=by
 rcases h with h | ⟨g,e,h⟩
 ·exact .inl h
 ·obtain⟨cap,cur,fz,_,hb,hh,_⟩:=id h
  exact .inr ⟨g,e,h.keep (hk g _ _ hh)⟩
theorem KSL.kept {w w':World} {base:Nat} {a:Option Addr} {n:Nat} {F:Nat→Chk} (h:KSL w base a n F) (hk:∀ (g:Nat) (cs:Array Value),w.heap[g]?=some (.cells cs 72 (0,0))→w'.heap[g]?=w.heap[g]?):KSL w' base a n F:=by
 rcases h with h | ⟨g,e,h⟩
 ·exact .inl h
 ·obtain⟨hb,cur,hh,_⟩:=id h
  exact .inr ⟨g,e,h.keep (hk g _ hh)⟩
set_option maxRecDepth 100000 in
set_option maxHeartbeats 1600000 in
theorem markMean_any (m:Mea) (q:MeaA) (base k:Nat) (w:World) (h:MeanSL w base m q) (hZ:MeanSz m) (hk:k≤1000):
  Calls Try.prog 13 #[meanV m q,.int .i64 (k:Int)] w (MeanMarked k base m q w):=by
 obtain⟨mw,mh,pn,P,kn,K⟩:=m
 obtain⟨pa,pc,ka,kc⟩:=q
 have hp':pn≤1048576:=hZ.p
 have hk':kn≤1048576:=hZ.k
 have H0:Hid (Below w.heap.size w (w.alloc (.cells #[.int .i64 mw,.int .i64 mh,.slice pa pn pc,.slice ka kn kc] 34))∧(w.alloc (.cells #[.int .i64 mw,.int .i64 mh,.slice pa pn pc,.slice ka kn kc] 34)).heap[w.heap.size]?=some (.cells #[.int .i64 mw,.int .i64 mh,.slice pa pn pc,.slice ka kn kc] 34 (0,0))∧SL (w.alloc (.cells #[.int .i64 mw,.int .i64 mh,.slice pa pn pc,.slice ka kn kc] 34)) base pa pn pc P∧KSL (w.alloc (.cells #[.int .i64 mw,.int .i64 mh,.slice pa pn pc,.slice ka kn kc] 34)) base ka kn K∧w.heap.size≤(w.alloc (.cells #[.int .i64 mw,.int .i64 mh,.slice pa pn pc,.slice ka kn kc] 34)).heap.size):=⟨bstart _ _,heap_alloc_new _ _,h.p.called (bstart _ _),h.k.called (bstart _ _),by simp⟩
 clear h hZ
 show Calls Try.prog 13 #[.agg #[.int .i64 mw,.int .i64 mh,.slice pa pn pc,.slice ka kn kc],.int .i64 (k:Int)] w _
 go_enter Try.func13,Try.ntmps13
 go_wp2_with fail
 refine (markInts_step base pa pn pc k P _ H0.out.2.2.1 hp' (by omega)).mono ?_
 rintro e w1 ⟨rfl,hS,hB,hz,hc,hme⟩
 have H1:Hid ((∀ (B:Nat) (w0:World),Below B w0 w→B≤w.heap.size→B≤base→Below B w0 w1)∧w1.heap[w.heap.size]?=some (.cells #[.int .i64 mw,.int .i64 mh,.slice pa pn pc,.slice ka kn kc] 34 (0,0))∧SL w1 base pa pn pc (fun j=>(k:Int)+j)∧KSL w1 base ka kn K∧w.heap.size≤w1.heap.size∧∀ (g:Nat) (cs:Array Value),w.heap[g]?=some (.cells cs 34 (0,0))→w1.heap[g]?=w.heap[g]?):=⟨fun B w0 hb h1 h2=>hB B w0 (hb.trans (H0.out.1.mono h1)) (Nat.le_trans h1 H0.out.2.2.2.2) h2,(hme _ _ H0.out.2.1).trans H0.out.2.1,hS,H0.out.2.2.2.1.kept hc,Nat.le_trans H0.out.2.2.2.2 hz,fun g cs hg=>by
  have h1:=((bstart w (.cells #[.int .i64 mw,.int .i64 mh,.slice pa pn pc,.slice ka kn kc] 34)).block g (block_lt hg))
  exact (hme g cs (h1.trans hg)).trans h1⟩
 have a3:=(cell_of_block H1.out.2.1 3).trans rfl
 have l0:=block_lt H1.out.2.1
 clear hS hB hz hc hme H0
 go_wp2_with fail
 refine (markChks_step base ka kn kc (k+pn) K _ H1.out.2.2.2.1 hk' (by omega)).mono ?_
 rintro e w2 ⟨rfl,hS,hB,hz,hc,hme⟩
 have H2:Hid (MeanSL w2 base (mrk k ⟨mw,mh,pn,P,kn,K⟩) ⟨pa,pc,ka,kc⟩∧(∀ (B:Nat) (w0:World),Below B w0 w→B≤w.heap.size→B≤base→Below B w0 w2)∧∀ (g:Nat) (cs:Array Value),w.heap[g]?=some (.cells cs 34 (0,0))→w2.heap[g]?=w.heap[g]?):=⟨⟨H1.out.2.2.1.kept hc,hS⟩,fun B w0 hb h1 h2=>hB B w0 (H1.out.1 B w0 hb h1 h2) (Nat.le_trans h1 H1.out.2.2.2.2.1) h2,fun g cs hg=>(hme g cs ((H1.out.2.2.2.2.2 g cs hg).trans hg)).trans (H1.out.2.2.2.2.2 g cs hg)⟩
 clear hS hB hz hc hme H1 a3 l0
 go_wp2_with fail
 go_ret
 exact⟨rfl,H2.out⟩
end
section
open Go.RowKit Go.Joins ChunkMath
def MBx (u:World) (X:Nat) (A:Array Value):Prop:=u.heap[X]?=some (.cells A 34 (0,0))
theorem MBx.called {u u':World} {A:Array Value} {X:Nat} (h:MBx u X A) (hb:Below u.heap.size u u'):MBx u' X A:=(hb.block _ (block_lt h)).trans h
end
end Go.Proofs.Ytkpbfmdnjnohlaa
