/-
  Texts of the proof, put together.
-/
import Derived.Test.YtkpbfmdnjnohlaaGreatTk09
import Derived.Test.YtkpbfmdnjnohlaaGreatTk10
namespace Go.Proofs.YtkpbfmdnjnohlaaGreat
open Go.RowKit Go.Joins HeadMath ChunkMath
theorem below_same {w w1:World} (h:w1=w):Below w.heap.size w w1:=h ▸ Below.refl _ _
structure PngSL (w:World) (base:Nat) (p:Pic) (q:PicA):Prop where
 t:RgbSL w base q.ta p.tn p.T
 c:SL w base q.ca p.cn q.cc p.C
 s:SL w base q.sa p.sn q.sc p.S
 k:KSL w base q.ka p.kn p.K
 ne:p.cn=0∨p.sn=0∨q.ca≠q.sa
 capped:p.sn≤q.sc∧q.sc≤maxLen
theorem PngSL.called {w w':World} {base:Nat} {p:Pic} {q:PicA} (h:PngSL w base p q) (hb:Below w.heap.size w w'):PngSL w' base p q:=⟨h.t.called hb,h.c.called hb,h.s.called hb,h.k.called hb,h.ne,h.capped⟩
theorem PngSL.lie {w:World} {base:Nat} {p:Pic} {q:PicA} (h:PngSL w base p q):PngIn w p q:=⟨h.t.came,h.c.came,h.s.came,h.k.came,h.capped⟩
def mrkP (k:Nat) (p:Pic):Pic:=⟨p.hw,p.hh,p.hd,p.hc,p.lace,p.tn,rgbMarkedT (k:Int),p.cn,fun j=>((k+3 * p.tn:Nat):Int)+j,p.rw,p.rh,p.rc,p.rd,p.sn,fun j=>((k+3 * p.tn+p.cn:Nat):Int)+j,p.kn,mkd (k+3 * p.tn+p.cn+p.sn)⟩
def PStays (t:TypeId) (n:Nat) (a:Option Addr) (base:Nat) (w w':World):Prop:=(∀ (B:Nat) (w0:World),Below B w0 w→B≤w.heap.size→B≤base→Below B w0 w')∧w.heap.size≤w'.heap.size∧∀ (g:Nat) (cs:Array Value) (u:TypeId) (fz:Nat×Nat),w.heap[g]?=some (.cells cs u fz)→(u≠t∨n=0∨a≠some ⟨g,0,none⟩)→w'.heap[g]?=w.heap[g]?
theorem PStays.nil (t:TypeId) (n:Nat) (a:Option Addr) (base:Nat) (w:World):PStays t n a base w w:=⟨fun _ _ h _ _=>h,Nat.le_refl _,fun _ _ _ _ _ _=>rfl⟩
theorem PStays.one {t:TypeId} {n base g:Nat} {w w':World} {cs:Array Value} {fz:Nat×Nat} (hh:w.heap[g]?=some (.cells cs t fz)) (hn0:¬ n=0) (hb:base≤g) (hg:w.grownBy w' (some g)):PStays t n (some ⟨g,0,none⟩) base w w':=by
 refine⟨fun B w0 hB h1 h2=>hB.grown hg h1 (fun q hq=>by cases hq; omega),hg.size,fun q cs' u fz' hq hne=>hg.block q (block_lt hq) (fun e=>?_)⟩
 cases e
 rcases hne with hne | hne | hne
 ·rw[hq] at hh; cases hh; exact hne rfl
 ·exact hn0 hne
 ·exact hne rfl
theorem markRgbs_step (base:Nat) (a:Option Addr) (n c k:Nat) (F:Nat→Rgb3) (w:World) (h:RgbSL w base a n F) (hn:n≤1048576) (hk:k≤1000000):
  Calls Tryz.prog 46 #[.slice a n c,.int .i64 (k:Int)] w fun e w'=>e=.returned (.int .i64 ((k+3 * n:Nat):Int))∧RgbSL w' base a n (rgbMarkedT (k:Int))∧PStays 74 n a base w w':=by
 by_cases hn0:n=0
 ·subst hn0
  refine (markRgbS_none a c (k:Int) w).mono ?_
  rintro e w' ⟨rfl,rfl⟩
  exact⟨by simp,.inl rfl,PStays.nil _ _ _ _ _⟩
 ·rcases h with h | ⟨g,rfl,h⟩
  ·exact absurd h hn0
  refine (markRgbS_own base g n c F (k:Int) w h hn (by omega) (by omega)).mono ?_
  rintro e w' ⟨rfl,hO,hg⟩
  obtain⟨hb,cur,hh,_⟩:=id h
  exact⟨by simp,.inr ⟨g,rfl,hO⟩,PStays.one hh hn0 hb hg⟩
theorem markIntsP_step (base:Nat) (a:Option Addr) (n c k:Nat) (f:Nat→Int) (w:World) (h:SL w base a n c f) (hn:n≤1048576) (hk:k≤10000000):
  Calls Tryz.prog 47 #[.slice a n c,.int .i64 (k:Int)] w fun e w'=>e=.returned (.int .i64 ((k+n:Nat):Int))∧SL w' base a n c (fun j=>(k:Int)+j)∧PStays 3 n a base w w':=by
 by_cases hn0:n=0
 ·subst hn0
  refine (markIntS_none a c (k:Int) w).mono ?_
  rintro e w' ⟨rfl,rfl⟩
  exact⟨by simp,.inl rfl,PStays.nil _ _ _ _ _⟩
 ·rcases h with h | ⟨g,rfl,h⟩
  ·exact absurd h hn0
  refine (markIntS_own base g n c f (k:Int) w h hn (by omega) (by omega)).mono ?_
  rintro e w' ⟨rfl,hO,hg⟩
  obtain⟨cap,cur,fz,_,hb,hh,_⟩:=id h
  exact⟨by simp,.inr ⟨g,rfl,hO⟩,PStays.one hh hn0 hb hg⟩
theorem markRasP_step (x0 x1 x2 x3:Int) (base:Nat) (a:Option Addr) (n c k:Nat) (f:Nat→Int) (w:World) (h:SL w base a n c f) (hn:n≤1048576) (hk:k≤100000000):
  Calls Tryz.prog 48 #[.agg #[.int .i64 x0,.int .i64 x1,.int .i64 x2,.int .i64 x3,.slice a n c],.int .i64 (k:Int)] w fun e w'=>e=.returned (.int .i64 ((k+n:Nat):Int))∧SL w' base a n c (fun j=>(k:Int)+j)∧PStays 3 n a base w w':=by
 by_cases hn0:n=0
 ·subst hn0
  refine (markRaster_none x0 x1 x2 x3 a c (k:Int) w).mono ?_
  rintro e w' ⟨rfl,hB⟩
  exact⟨by simp,.inl rfl,fun B w0 h0 h1 _=>h0.trans (hB.mono h1),hB.size,fun g cs u fz hg _=>hB.block g (block_lt hg)⟩
 ·rcases h with h | ⟨g,rfl,h⟩
  ·exact absurd h hn0
  refine (markRaster_mine x0 x1 x2 x3 base g n c f (k:Int) w h hn (by omega) (by omega)).mono ?_
  rintro e w' ⟨rfl,hO,hg⟩
  obtain⟨cap,cur,fz,_,hb,hh,_⟩:=id h
  exact⟨by simp,.inr ⟨g,rfl,hO⟩,PStays.one hh hn0 hb hg⟩
theorem markChksP_step (base:Nat) (a:Option Addr) (n c k:Nat) (F:Nat→Chk) (w:World) (h:KSL w base a n F) (hn:n≤1048576) (hk:k≤10000000):
  Calls Tryz.prog 49 #[.slice a n c,.int .i64 (k:Int)] w fun e w'=>e=.returned (.int .i64 ((k+2 * n:Nat):Int))∧KSL w' base a n (mkd k)∧PStays 93 n a base w w':=by
 by_cases hn0:n=0
 ·subst hn0
  refine (markChunkS_none a c (k:Int) w).mono ?_
  rintro e w' ⟨rfl,rfl⟩
  exact⟨by simp,.inl rfl,PStays.nil _ _ _ _ _⟩
 ·rcases h with h | ⟨g,rfl,h⟩
  ·exact absurd h hn0
  refine (markChunkS_own base g n c F k w h hn hk).mono ?_
  rintro e w' ⟨rfl,hO,hg⟩
  obtain⟨hb,cur,hh,_⟩:=id h
  exact⟨rfl,.inr ⟨g,rfl,hO⟩,PStays.one hh hn0 hb hg⟩
theorem RgbSL.stays {t:TypeId} {nb:Nat} {b:Option Addr} {w w':World} {base bb:Nat} {a:Option Addr} {n:Nat} {F:Nat→Rgb3} (h:RgbSL w base a n F) (hs:PStays t nb b bb w w') (ht:74≠t):RgbSL w' base a n F:=by
 rcases h with h | ⟨g,e,h⟩
 ·exact .inl h
 ·obtain⟨hb,cur,hh,_⟩:=id h
  exact .inr ⟨g,e,h.keep (hs.2.2 g _ _ _ hh (.inl ht))⟩
theorem KSL.stays {t:TypeId} {nb:Nat} {b:Option Addr} {w w':World} {base bb:Nat} {a:Option Addr} {n:Nat} {F:Nat→Chk} (h:KSL w base a n F) (hs:PStays t nb b bb w w') (ht:93≠t):KSL w' base a n F:=by
 rcases h with h | ⟨g,e,h⟩
 ·exact .inl h
 ·obtain⟨hb,cur,hh,_⟩:=id h
  exact .inr ⟨g,e,h.keep (hs.2.2 g _ _ _ hh (.inl ht))⟩
theorem SL.stays {t:TypeId} {nb:Nat} {b:Option Addr} {w w':World} {base bb:Nat} {a:Option Addr} {n c:Nat} {f:Nat→Int} (h:SL w base a n c f) (hs:PStays t nb b bb w w') (ht:n=0∨3≠t∨nb=0∨b≠a):SL w' base a n c f:=by
 rcases h with h | ⟨g,e,h⟩
 ·exact .inl h
 ·rcases ht with ht | ht
  ·exact .inl ht
  obtain⟨cap,cur,fz,_,hb,hh,_⟩:=id h
  exact .inr ⟨g,e,h.keep (hs.2.2 g _ _ _ hh (ht.imp id fun k=>k.imp id fun k=>by rw [← e]; exact k))⟩
theorem PStays.other {t:TypeId} {n:Nat} {a:Option Addr} {base:Nat} {w w':World} (h:PStays t n a base w w') {g:Nat} {cs:Array Value} {fz:Nat×Nat} (hg:w.heap[g]?=some (.cells cs 37 fz)) (ht:37≠t):w'.heap[g]?=some (.cells cs 37 fz):=(h.2.2 g _ _ _ hg (.inl ht)).trans hg
def PngMarks (k base:Nat) (p:Pic) (q:PicA) (w:World) (e:Ending) (w':World):Prop:=e=.returned (.int .i64 ((k+3 * p.tn+p.cn+p.sn+2 * p.kn:Nat):Int))∧PngSL w' base (mrkP k p) q∧(∀ (B:Nat) (w0:World),Below B w0 w→B≤w.heap.size→B≤base→Below B w0 w')∧∀ (g:Nat) (cs:Array Value),w.heap[g]?=some (.cells cs 37 (0,0))→w'.heap[g]?=w.heap[g]?
def PMk (w u:World) (base:Nat) (A:Array Value):Prop:=(∀ (B:Nat) (w0:World),Below B w0 w→B≤w.heap.size→B≤base→Below B w0 u)∧w.heap.size≤u.heap.size∧u.heap[w.heap.size]?=some (.cells A 37 (0,0))∧∀ (g:Nat) (cs:Array Value),w.heap[g]?=some (.cells cs 37 (0,0))→u.heap[g]?=w.heap[g]?
theorem PMk.next {w u u':World} {base:Nat} {A:Array Value} {t:TypeId} {n:Nat} {a:Option Addr} (h:PMk w u base A) (hs:PStays t n a base u u') (ht:37≠t):PMk w u' base A:=
 ⟨fun B w0 hb h1 h2=>hs.1 B w0 (h.1 B w0 hb h1 h2) (Nat.le_trans h1 h.2.1) h2,Nat.le_trans h.2.1 hs.2.1,hs.other h.2.2.1 ht,fun g cs hg=>((hs.2.2 g _ _ _ ((h.2.2.2 g cs hg).trans hg) (.inl ht))).trans (h.2.2.2 g cs hg)⟩
theorem PMk.start (w:World) (base:Nat) (A:Array Value):PMk w (w.alloc (.cells A 37)) base A:=⟨fun B w0 hb h1 _=>hb.trans ((bstart w _).mono h1),by simp,heap_alloc_new w _,fun g cs hg=>(bstart w _).block g (block_lt hg)⟩
set_option maxRecDepth 100000 in
set_option maxHeartbeats 3200000 in
theorem markPng_sl (p:Pic) (q:PicA) (base k:Nat) (w:World) (h:PngSL w base p q) (hZ:PngSz p) (hk:k≤1000):
  Calls Tryz.prog 13 #[pngV p q,.int .i64 (k:Int)] w (PngMarks k base p q w):=by
 obtain⟨hw,hh,hd,hc',lace,tn,T,cn,C,rw',rh,rc,rd,sn,S,kn,K⟩:=p
 obtain⟨ta,tc,ca,cc,sa,sc,ka,kc⟩:=q
 have ht':tn≤1048576:=hZ.t
 have hc2:cn≤1048576:=hZ.c
 have hs':sn≤1048576:=hZ.s
 have hk':kn≤1048576:=hZ.k
 have HNE:Hid ((cn=0∨sn=0∨ca≠sa)∧sn≤sc∧sc≤maxLen):=⟨h.ne,h.capped⟩
 have hb0:=bstart w (.cells #[.int .i64 hw,.int .i64 hh,.int .i64 hd,.int .i64 hc',.bool lace,.slice ta tn tc,.slice ca cn cc,.int .i64 rw',.int .i64 rh,.int .i64 rc,.int .i64 rd,.slice sa sn sc,.slice ka kn kc] 37)
 have H0:Hid (PMk w (w.alloc (.cells #[.int .i64 hw,.int .i64 hh,.int .i64 hd,.int .i64 hc',.bool lace,.slice ta tn tc,.slice ca cn cc,.int .i64 rw',.int .i64 rh,.int .i64 rc,.int .i64 rd,.slice sa sn sc,.slice ka kn kc] 37)) base #[.int .i64 hw,.int .i64 hh,.int .i64 hd,.int .i64 hc',.bool lace,.slice ta tn tc,.slice ca cn cc,.int .i64 rw',.int .i64 rh,.int .i64 rc,.int .i64 rd,.slice sa sn sc,.slice ka kn kc]):=PMk.start w base _
 have T0:Hid (RgbSL (w.alloc (.cells #[.int .i64 hw,.int .i64 hh,.int .i64 hd,.int .i64 hc',.bool lace,.slice ta tn tc,.slice ca cn cc,.int .i64 rw',.int .i64 rh,.int .i64 rc,.int .i64 rd,.slice sa sn sc,.slice ka kn kc] 37)) base ta tn T):=h.t.called hb0
 have C0:Hid (SL (w.alloc (.cells #[.int .i64 hw,.int .i64 hh,.int .i64 hd,.int .i64 hc',.bool lace,.slice ta tn tc,.slice ca cn cc,.int .i64 rw',.int .i64 rh,.int .i64 rc,.int .i64 rd,.slice sa sn sc,.slice ka kn kc] 37)) base ca cn cc C):=h.c.called hb0
 have S0:Hid (SL (w.alloc (.cells #[.int .i64 hw,.int .i64 hh,.int .i64 hd,.int .i64 hc',.bool lace,.slice ta tn tc,.slice ca cn cc,.int .i64 rw',.int .i64 rh,.int .i64 rc,.int .i64 rd,.slice sa sn sc,.slice ka kn kc] 37)) base sa sn sc S):=h.s.called hb0
 have K0:Hid (KSL (w.alloc (.cells #[.int .i64 hw,.int .i64 hh,.int .i64 hd,.int .i64 hc',.bool lace,.slice ta tn tc,.slice ca cn cc,.int .i64 rw',.int .i64 rh,.int .i64 rc,.int .i64 rd,.slice sa sn sc,.slice ka kn kc] 37)) base ka kn K):=h.k.called hb0
 clear h hZ hb0
 show Calls Tryz.prog 13 #[.agg #[.int .i64 hw,.int .i64 hh,.int .i64 hd,.int .i64 hc',.bool lace,.slice ta tn tc,.slice ca cn cc,.int .i64 rw',.int .i64 rh,.int .i64 rc,.int .i64 rd,.slice sa sn sc,.slice ka kn kc],.int .i64 (k:Int)] w _
 go_enter Tryz.func13,Tryz.ntmps13
 go_wp2_with fail
 refine (markRgbs_step base ta tn tc k T _ T0.out ht' (by omega)).mono ?_
 rintro e w1 ⟨rfl,hS,hG⟩
 have H1:=hid_of (H0.out.next hG (by decide))
 have T1:=hid_of hS
 have C1:=hid_of (C0.out.stays hG (.inr (.inl (by decide))))
 have S1:=hid_of (S0.out.stays hG (.inr (.inl (by decide))))
 have K1:=hid_of (K0.out.stays hG (by decide))
 clear hS hG H0 T0 C0 S0 K0
 have a6:=(cell_of_block H1.out.2.2.1 6).trans rfl
 have l0:=block_lt H1.out.2.2.1
 go_wp2_with fail
 clear a6 l0
 refine (markIntsP_step base ca cn cc (k+3 * tn) C _ C1.out hc2 (by omega)).mono ?_
 rintro e w2 ⟨rfl,hS,hG⟩
 have H2:=hid_of (H1.out.next hG (by decide))
 have T2:=hid_of (T1.out.stays hG (by decide))
 have C2:=hid_of hS
 have S2:Hid (SL w2 base sa sn sc S):=S1.out.stays hG (by rcases HNE.out.1 with h0 | h0 | h0; exact .inr (.inr (.inl h0)); exact .inl h0; exact .inr (.inr (.inr h0)))
 have K2:=hid_of (K1.out.stays hG (by decide))
 clear hS hG H1 T1 C1 S1 K1
 have l0:=block_lt H2.out.2.2.1
 have a7:=(cell_of_block H2.out.2.2.1 7).trans rfl
 have a8:=(cell_of_block H2.out.2.2.1 8).trans rfl
 have a9:=(cell_of_block H2.out.2.2.1 9).trans rfl
 have a10:=(cell_of_block H2.out.2.2.1 10).trans rfl
 have a11:=(cell_of_block H2.out.2.2.1 11).trans rfl
 go_wp2_with fail
 clear l0 a7 a8 a9 a10 a11
 refine (markRasP_step rw' rh rc rd base sa sn sc (k+3 * tn+cn) S _ S2.out hs' (by omega)).mono ?_
 rintro e w3 ⟨rfl,hS,hG⟩
 have H3:=hid_of (H2.out.next hG (by decide))
 have T3:=hid_of (T2.out.stays hG (by decide))
 have C3:Hid (SL w3 base ca cn cc (fun j=>((k+3 * tn:Nat):Int)+j)):=C2.out.stays hG (by rcases HNE.out.1 with h0 | h0 | h0; exact .inl h0; exact .inr (.inr (.inl h0)); exact .inr (.inr (.inr (Ne.symm h0))))
 have S3:=hid_of hS
 have K3:=hid_of (K2.out.stays hG (by decide))
 clear hS hG H2 T2 C2 S2 K2
 have a12:=(cell_of_block H3.out.2.2.1 12).trans rfl
 have l0:=block_lt H3.out.2.2.1
 go_wp2_with fail
 clear a12 l0
 refine (markChksP_step base ka kn kc (k+3 * tn+cn+sn) K _ K3.out hk' (by omega)).mono ?_
 rintro e w4 ⟨rfl,hS,hG⟩
 have H4:=hid_of (H3.out.next hG (by decide))
 have T4:=hid_of (T3.out.stays hG (by decide))
 have C4:=hid_of (C3.out.stays hG (.inr (.inl (by decide))))
 have S4:=hid_of (S3.out.stays hG (.inr (.inl (by decide))))
 have K4:=hid_of hS
 clear hS hG H3 T3 C3 S3 K3
 go_wp2_with fail
 go_ret
 exact⟨rfl,⟨T4.out,C4.out,S4.out,K4.out,HNE.out.1,HNE.out.2⟩,H4.out.1,H4.out.2.2.2⟩
set_option maxRecDepth 100000 in
set_option maxHeartbeats 3200000 in
theorem heldPng_any (p:Pic) (q:PicA) (k:Nat) (w:World) (h:PngIn w (mrkP k p) q) (hZ:PngSz p) (hk:k≤1000):
  Calls Tryz.prog 14 #[pngV p q,.int .i64 (k:Int)] w fun e w'=>e=.returned (.int .i64 ((k+3 * p.tn+p.cn+p.sn+2 * p.kn:Nat):Int))∧Below w.heap.size w w':=by
 obtain⟨hw,hh,hd,hc',lace,tn,T,cn,C,rw',rh,rc,rd,sn,S,kn,K⟩:=p
 obtain⟨ta,tc,ca,cc,sa,sc,ka,kc⟩:=q
 have ht':tn≤1048576:=hZ.t
 have hc2:cn≤1048576:=hZ.c
 have hs':sn≤1048576:=hZ.s
 have hk':kn≤1048576:=hZ.k
 have HT:Hid (RgbCame w ta tn (rgbMarkedT (k:Int))):=hid_of h.t
 have HC:Hid (Came w ca cn (fun j=>((k+3 * tn:Nat):Int)+j)):=hid_of h.c
 have HS:Hid (Came w sa sn (fun j=>((k+3 * tn+cn:Nat):Int)+j)):=hid_of h.s
 have HK:Hid (KCame w ka kn (mkd (k+3 * tn+cn+sn))):=hid_of h.k
 clear h hZ
 have H0:Hid (Below w.heap.size w (w.alloc (.cells #[.int .i64 hw,.int .i64 hh,.int .i64 hd,.int .i64 hc',.bool lace,.slice ta tn tc,.slice ca cn cc,.int .i64 rw',.int .i64 rh,.int .i64 rc,.int .i64 rd,.slice sa sn sc,.slice ka kn kc] 37))∧(w.alloc (.cells #[.int .i64 hw,.int .i64 hh,.int .i64 hd,.int .i64 hc',.bool lace,.slice ta tn tc,.slice ca cn cc,.int .i64 rw',.int .i64 rh,.int .i64 rc,.int .i64 rd,.slice sa sn sc,.slice ka kn kc] 37)).heap[w.heap.size]?=some (.cells #[.int .i64 hw,.int .i64 hh,.int .i64 hd,.int .i64 hc',.bool lace,.slice ta tn tc,.slice ca cn cc,.int .i64 rw',.int .i64 rh,.int .i64 rc,.int .i64 rd,.slice sa sn sc,.slice ka kn kc] 37 (0,0))):=⟨bstart _ _,heap_alloc_new _ _⟩
 show Calls Tryz.prog 14 #[.agg #[.int .i64 hw,.int .i64 hh,.int .i64 hd,.int .i64 hc',.bool lace,.slice ta tn tc,.slice ca cn cc,.int .i64 rw',.int .i64 rh,.int .i64 rc,.int .i64 rd,.slice sa sn sc,.slice ka kn kc],.int .i64 (k:Int)] w _
 go_enter Tryz.func14,Tryz.ntmps14
 go_wp2_with fail
 refine (heldRgbS_same ta tn tc (k:Int) _ (HT.out.called H0.out.1) ht' (by omega) (by omega)).mono ?_
 rintro e w1 ⟨rfl,hE⟩
 have hB:=below_same hE
 clear hE
 have H1:Hid (Below w.heap.size w w1∧w1.heap[w.heap.size]?=some (.cells #[.int .i64 hw,.int .i64 hh,.int .i64 hd,.int .i64 hc',.bool lace,.slice ta tn tc,.slice ca cn cc,.int .i64 rw',.int .i64 rh,.int .i64 rc,.int .i64 rd,.slice sa sn sc,.slice ka kn kc] 37 (0,0))):=⟨bnext H0.out.1 hB,(hB.block _ (block_lt H0.out.2)).trans H0.out.2⟩
 have d1:decide ((k:Int)+3 * (tn:Int) < 0)=false:=decide_eq_false (by omega)
 have a6:=(cell_of_block H1.out.2 6).trans rfl
 have l0:=block_lt H1.out.2
 have ek:Hid ((k:Int)+3 * (tn:Int)=((k+3 * tn:Nat):Int)):=by show _=_; omega
 clear hB H0
 go_wp2_with fail
 rw[ek.out]
 refine (heldIntS_same ca cn cc ((k+3 * tn:Nat):Int) _ (HC.out.called H1.out.1) hc2 (by omega) (by omega)).mono ?_
 rintro e w2 ⟨rfl,hB⟩
 have H2:Hid (Below w.heap.size w w2∧w2.heap[w.heap.size]?=some (.cells #[.int .i64 hw,.int .i64 hh,.int .i64 hd,.int .i64 hc',.bool lace,.slice ta tn tc,.slice ca cn cc,.int .i64 rw',.int .i64 rh,.int .i64 rc,.int .i64 rd,.slice sa sn sc,.slice ka kn kc] 37 (0,0))):=⟨bnext H1.out.1 hB,(hB.block _ (block_lt H1.out.2)).trans H1.out.2⟩
 clear hB H1 a6 l0 ek d1
 have ek:Hid (((k+3 * tn:Nat):Int)+(cn:Int)=((k+3 * tn+cn:Nat):Int)):=by show _=_; omega
 rw[ek.out]
 have d2:decide (((k+3 * tn+cn:Nat):Int) < 0)=false:=decide_eq_false (by omega)
 have l0:=block_lt H2.out.2
 have a7:=(cell_of_block H2.out.2 7).trans rfl
 have a8:=(cell_of_block H2.out.2 8).trans rfl
 have a9:=(cell_of_block H2.out.2 9).trans rfl
 have a10:=(cell_of_block H2.out.2 10).trans rfl
 have a11:=(cell_of_block H2.out.2 11).trans rfl
 go_wp2_with fail
 clear l0 a7 a8 a9 a10 a11 d2
 refine (heldRaster_same rw' rh rc rd sa sn sc ((k+3 * tn+cn:Nat):Int) _ (HS.out.called H2.out.1) hs' (by omega) (by omega)).mono ?_
 rintro e w3 ⟨rfl,hB⟩
 have H3:Hid (Below w.heap.size w w3∧w3.heap[w.heap.size]?=some (.cells #[.int .i64 hw,.int .i64 hh,.int .i64 hd,.int .i64 hc',.bool lace,.slice ta tn tc,.slice ca cn cc,.int .i64 rw',.int .i64 rh,.int .i64 rc,.int .i64 rd,.slice sa sn sc,.slice ka kn kc] 37 (0,0))):=⟨bnext H2.out.1 hB,(hB.block _ (block_lt H2.out.2)).trans H2.out.2⟩
 clear hB H2 ek
 have ek:Hid (((k+3 * tn+cn:Nat):Int)+(sn:Int)=((k+3 * tn+cn+sn:Nat):Int)):=by show _=_; omega
 rw[ek.out]
 have d3:decide (((k+3 * tn+cn+sn:Nat):Int) < 0)=false:=decide_eq_false (by omega)
 have l0:=block_lt H3.out.2
 have a12:=(cell_of_block H3.out.2 12).trans rfl
 go_wp2_with fail
 clear l0 a12 d3
 refine (heldChunkS_same ka kn kc (k+3 * tn+cn+sn) _ (HK.out.called H3.out.1) hk' (by omega)).mono ?_
 rintro e w4 ⟨rfl,hB⟩
 have H4:=hid_of (bnext H3.out.1 hB)
 have d4:decide (((k+3 * tn+cn+sn+2 * kn:Nat):Int) < 0)=false:=decide_eq_false (by omega)
 clear hB H3 ek
 go_wp2_with fail
 go_ret
 exact⟨rfl,H4.out⟩
end Go.Proofs.YtkpbfmdnjnohlaaGreat
