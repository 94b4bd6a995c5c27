/-
  Texts of the proof, put together.
-/
import Derived.Test.YtkpbfmdnjnohlaaGreatTk07
import Derived.Test.YtkpbfmdnjnohlaaGreatTk04
import Derived.Test.YtkpbfmdnjnohlaaGreatTk05
namespace Go.Proofs.YtkpbfmdnjnohlaaGreat
section
open Go.RowKit Go.Joins HeadMath ChunkMath
theorem below_same {w w1:World} (h:w1=w):Below w.heap.size w w1:=h ▸ Below.refl _ _
structure PngSL (w:World) (base:Nat) (p:Pic) (q:PicA):Prop where
 t:RgbSL w base q.ta p.tn p.T
 c:SL w base q.ca p.cn q.cc p.C
 s:SL w base q.sa p.sn q.sc p.S
 k:KSL w base q.ka p.kn p.K
 ne:p.cn=0∨p.sn=0∨q.ca≠q.sa
 capped:p.sn≤q.sc∧q.sc≤maxLen
theorem PngSL.called {w w':World} {base:Nat} {p:Pic} {q:PicA} (h:PngSL w base p q) (hb:Below w.heap.size w w'):PngSL w' base p q:=⟨h.t.called hb,h.c.called hb,h.s.called hb,h.k.called hb,h.ne,h.capped⟩
theorem PngSL.lie {w:World} {base:Nat} {p:Pic} {q:PicA} (h:PngSL w base p q):PngIn w p q:=⟨h.t.came,h.c.came,h.s.came,h.k.came,h.capped⟩
def mrkP (k:Nat) (p:Pic):Pic:=⟨p.hw,p.hh,p.hd,p.hc,p.lace,p.tn,rgbMarkedT (k:Int),p.cn,fun j=>((k+3 * p.tn:Nat):Int)+j,p.rw,p.rh,p.rc,p.rd,p.sn,fun j=>((k+3 * p.tn+p.cn:Nat):Int)+j,p.kn,mkd (k+3 * p.tn+p.cn+p.sn)⟩
def PStays (t:TypeId) (n:Nat) (a:Option Addr) (base:Nat) (w w':World):Prop:=(∀ (B:Nat) (w0:World),Below B w0 w→B≤w.heap.size→B≤base→Below B w0 w')∧w.heap.size≤w'.heap.size∧∀ (g:Nat) (cs:Array Value) (u:TypeId) (fz:Nat×Nat),w.heap[g]?=some (.cells cs u fz)→(u≠t∨n=0∨a≠some ⟨g,0,none⟩)→w'.heap[g]?=w.heap[g]?
theorem PStays.nil (t:TypeId) (n:Nat) (a:Option Addr) (base:Nat) (w:World):PStays t n a base w w:=⟨fun _ _ h _ _=>h,Nat.le_refl _,fun _ _ _ _ _ _=>rfl⟩
theorem PStays.one {t:TypeId} {n base g:Nat} {w w':World} {cs:Array Value} {fz:Nat×Nat} (hh:w.heap[g]?=some (.cells cs t fz)) (hn0:¬ n=0) (hb:base≤g) (hg:w.grownBy w' (some g)):PStays t n (some ⟨g,0,none⟩) base w w':=by
 refine⟨fun B w0 hB h1 h2=>hB.grown hg h1 (fun q hq=>by cases hq; omega),hg.size,fun q cs' u fz' hq hne=>hg.block q (block_lt hq) (fun e=>?_)⟩
 cases e
 rcases hne with hne | hne | hne
 ·rw[hq] at hh; cases hh; exact hne rfl
 ·exact hn0 hne
 ·exact hne rfl
theorem markRgbs_step (base:Nat) (a:Option Addr) (n c k:Nat) (F:Nat→Rgb3) (w:World) (h:RgbSL w base a n F) (hn:n≤1048576) (hk:k≤1000000):
  Calls Tryz.prog 46 #[.slice a n c,.int .i64 (k:Int)] w fun e w'=>e=.returned (.int .i64 ((k+3 * n:Nat):Int))∧RgbSL w' base a n (rgbMarkedT (k:Int))∧PStays 74 n a base w w':=by
 by_cases hn0:n=0
 ·subst hn0
  refine (markRgbS_none a c (k:Int) w).mono ?_
  rintro e w' ⟨rfl,rfl⟩
  exact⟨by simp,.inl rfl,PStays.nil _ _ _ _ _⟩
 ·rcases h with h | ⟨g,rfl,h⟩
  ·exact absurd h hn0
  refine (markRgbS_own base g n c F (k:Int) w h hn (by omega) (by omega)).mono ?_
  rintro e w' ⟨rfl,hO,hg⟩
  obtain⟨hb,cur,hh,_⟩:=id h
  exact⟨by simp,.inr ⟨g,rfl,hO⟩,PStays.one hh hn0 hb hg⟩
theorem markIntsP_step (base:Nat) (a:Option Addr) (n c k:Nat) (f:Nat→Int) (w:World) (h:SL w base a n c f) (hn:n≤1048576) (hk:k≤10000000):
  Calls Tryz.prog 47 #[.slice a n c,.int .i64 (k:Int)] w fun e w'=>e=.returned (.int .i64 ((k+n:Nat):Int))∧SL w' base a n c (fun j=>(k:Int)+j)∧PStays 3 n a base w w':=by
 by_cases hn0:n=0
 ·subst hn0
  refine (markIntS_none a c (k:Int) w).mono ?_
  rintro e w' ⟨rfl,rfl⟩
  exact⟨by simp,.inl rfl,PStays.nil _ _ _ _ _⟩
 ·rcases h with h | ⟨g,rfl,h⟩
  ·exact absurd h hn0
  refine (markIntS_own base g n c f (k:Int) w h hn (by omega) (by omega)).mono ?_
  rintro e w' ⟨rfl,hO,hg⟩
  obtain⟨cap,cur,fz,_,hb,hh,_⟩:=id h
  exact⟨by simp,.inr ⟨g,rfl,hO⟩,PStays.one hh hn0 hb hg⟩
theorem markRasP_step (x0 x1 x2 x3:Int) (base:Nat) (a:Option Addr) (n c k:Nat) (f:Nat→Int) (w:World) (h:SL w base a n c f) (hn:n≤1048576) (hk:k≤100000000):
  Calls Tryz.prog 48 #[.agg #[.int .i64 x0,.int .i64 x1,.int .i64 x2,.int .i64 x3,.slice a n c],.int .i64 (k:Int)] w fun e w'=>e=.returned (.int .i64 ((k+n:Nat):Int))∧SL w' base a n c (fun j=>(k:Int)+j)∧PStays 3 n a base w w':=by
 by_cases hn0:n=0
 ·subst hn0
  refine (markRaster_none x0 x1 x2 x3 a c (k:Int) w).mono ?_
  rintro e w' ⟨rfl,hB⟩
  exact⟨by simp,.inl rfl,fun B w0 h0 h1 _=>h0.trans (hB.mono h1),hB.size,fun g cs u fz hg _=>hB.block g (block_lt hg)⟩
 ·rcases h with h | ⟨g,rfl,h⟩
  ·exact absurd h hn0
  refine (markRaster_mine x0 x1 x2 x3 base g n c f (k:Int) w h hn (by omega) (by omega)).mono ?_
  rintro e w' ⟨rfl,hO,hg⟩
  obtain⟨cap,cur,fz,_,hb,hh,_⟩:=id h
  exact⟨by simp,.inr ⟨g,rfl,hO⟩,PStays.one hh hn0 hb hg⟩
theorem markChksP_step (base:Nat) (a:Option Addr) (n c k:Nat) (F:Nat→Chk) (w:World) (h:KSL w base a n F) (hn:n≤1048576) (hk:k≤10000000):
  Calls Tryz.prog 49 #[.slice a n c,.int .i64 (k:Int)] w fun e w'=>e=.returned (.int .i64 ((k+2 * n:Nat):Int))∧KSL w' base a n (mkd k)∧PStays 93 n a base w w':=by
 by_cases hn0:n=0
 ·subst hn0
  refine (markChunkS_none a c (k:Int) w).mono ?_
  rintro e w' ⟨rfl,rfl⟩
  exact⟨by simp,.inl rfl,PStays.nil _ _ _ _ _⟩
 ·rcases h with h | ⟨g,rfl,h⟩
  ·exact absurd h hn0
  refine (markChunkS_own base g n c F k w h hn hk).mono ?_
  rintro e w' ⟨rfl,hO,hg⟩
  obtain⟨hb,cur,hh,_⟩:=id h
  exact⟨rfl,.inr ⟨g,rfl,hO⟩,PStays.one hh hn0 hb hg⟩
theorem RgbSL.stays {t:TypeId} {nb:Nat} {b:Option Addr} {w w':World} {base bb:Nat} {a:Option Addr} {n:Nat} {F:Nat→Rgb3} (h:RgbSL w base a n F) (hs:PStays t nb b bb w w') (ht:74≠t):RgbSL w' base a n F:=by
 rcases h with h | ⟨g,e,h⟩
 ·exact .inl h
 ·obtain⟨hb,cur,hh,_⟩:=id h
  exact .inr ⟨g,e,h.keep (hs.2.2 g _ _ _ hh (.inl ht))⟩
theorem KSL.stays {t:TypeId} {nb:Nat} {b:Option Addr} {w w':World} {base bb:Nat} {a:Option Addr} {n:Nat} {F:Nat→Chk} (h:KSL w base a n F) (hs:PStays t nb b bb w w') (ht:93≠t):KSL w' base a n F:=by
 rcases h with h | ⟨g,e,h⟩
 ·exact .inl h
 ·obtain⟨hb,cur,hh,_⟩:=id h
  exact .inr ⟨g,e,h.keep (hs.2.2 g _ _ _ hh (.inl ht))⟩
theorem SL.stays {t:TypeId} {nb:Nat} {b:Option Addr} {w w':World} {base bb:Nat} {a:Option Addr} {n c:Nat} {f:Nat→Int} (h:SL w base a n c f) (hs:PStays t nb b bb w w') (ht:n=0∨3≠t∨nb=0∨b≠a):SL w' base a n c f:=by
 rcases h with h | ⟨g,e,h⟩
 ·exact .inl h
 ·rcases ht with ht | ht
  ·exact .inl ht
  obtain⟨cap,cur,fz,_,hb,hh,_⟩:=id h
  exact .inr ⟨g,e,h.keep (hs.2.2 g _ _ _ hh (ht.imp id fun k=>k.imp id fun k=>by rw [← e]; exact k))⟩
theorem PStays.other {t:TypeId} {n:Nat} {a:Option Addr} {base:Nat} {w w':World} (h:PStays t n a base w w') {g:Nat} {cs:Array Value} {fz:Nat×Nat} (hg:w.heap[g]?=some (.cells cs 37 fz)) (ht:37≠t):w'.heap[g]?=some (.cells cs 37 fz):=(h.2.2 g _ _ _ hg (.inl ht)).trans hg
def PngMarks (k base:Nat) (p:Pic) (q:PicA) (w:World) (e:Ending) (w':World):Prop:=e=.returned (.int .i64 ((k+3 * p.tn+p.cn+p.sn+2 * p.kn:Nat):Int))∧PngSL w' base (mrkP k p) q∧(∀ (B:Nat) (w0:World),Below B w0 w→B≤w.heap.size→B≤base→Below B w0 w')∧∀ (g:Nat) (cs:Array Value),w.heap[g]?=some (.cells cs 37 (0,0))→w'.heap[g]?=w.heap[g]?
def PMk (w u:World) (base:Nat) (A:Array Value):Prop:=(∀ (B:Nat) (w0:World),Below B w0 w→B≤w.heap.size→B≤base→Below B w0 u)∧w.heap.size≤u.heap.size∧u.heap[w.heap.size]?=some (.cells A 37 (0,0))∧∀ (g:Nat) (cs:Array Value),w.heap[g]?=some (.cells cs 37 (0,0))→u.heap[g]?=w.heap[g]?
theorem PMk.next {w u u':World} {base:Nat} {A:Array Value} {t:TypeId} {n:Nat} {a:Option Addr} (h:PMk w u base A) (hs:PStays t n a base u u') (ht:37≠t):PMk w u' base A:=
 ⟨fun B w0 hb h1 h2=>hs.1 B w0 (h.1 B w0 hb h1 h2) (Nat.le_trans h1 h.2.1) h2,Nat.le_trans h.2.1 hs.2.1,hs.other h.2.2.1 ht,fun g cs hg=>((hs.2.2 g _ _ _ ((h.2.2.2 g cs hg).trans hg) (.inl ht))).trans (h.2.2.2 g cs hg)⟩
theorem PMk.start (w:World) (base:Nat) (A:Array Value):PMk w (w.alloc (.cells A 37)) base A:=⟨fun B w0 hb h1 _=>hb.trans ((bstart w _).mono h1),by simp,heap_alloc_new w _,fun g cs hg=>(bstart w _).block g (block_lt hg)⟩
set_option maxRecDepth 100000 in
set_option maxHeartbeats 3200000 in
theorem markPng_sl (p:Pic) (q:PicA) (base k:Nat) (w:World) (h:PngSL w base p q) (hZ:PngSz p) (hk:k≤1000):
  Calls Tryz.prog 13 #[pngV p q,.int .i64 (k:Int)] w (PngMarks k base p q w):=by
 obtain⟨hw,hh,hd,hc',lace,tn,T,cn,C,rw',rh,rc,rd,sn,S,kn,K⟩:=p
 obtain⟨ta,tc,ca,cc,sa,sc,ka,kc⟩:=q
 have ht':tn≤1048576:=hZ.t
 have hc2:cn≤1048576:=hZ.c
 have hs':sn≤1048576:=hZ.s
 have hk':kn≤1048576:=hZ.k
 have HNE:Hid ((cn=0∨sn=0∨ca≠sa)∧sn≤sc∧sc≤maxLen):=⟨h.ne,h.capped⟩
 have hb0:=bstart w (.cells #[.int .i64 hw,.int .i64 hh,.int .i64 hd,.int .i64 hc',.bool lace,.slice ta tn tc,.slice ca cn cc,.int .i64 rw',.int .i64 rh,.int .i64 rc,.int .i64 rd,.slice sa sn sc,.slice ka kn kc] 37)
 have H0:Hid (PMk w (w.alloc (.cells #[.int .i64 hw,.int .i64 hh,.int .i64 hd,.int .i64 hc',.bool lace,.slice ta tn tc,.slice ca cn cc,.int .i64 rw',.int .i64 rh,.int .i64 rc,.int .i64 rd,.slice sa sn sc,.slice ka kn kc] 37)) base #[.int .i64 hw,.int .i64 hh,.int .i64 hd,.int .i64 hc',.bool lace,.slice ta tn tc,.slice ca cn cc,.int .i64 rw',.int .i64 rh,.int .i64 rc,.int .i64 rd,.slice sa sn sc,.slice ka kn kc]):=PMk.start w base _
 have T0:Hid (RgbSL (w.alloc (.cells #[.int .i64 hw,.int .i64 hh,.int .i64 hd,.int .i64 hc',.bool lace,.slice ta tn tc,.slice ca cn cc,.int .i64 rw',.int .i64 rh,.int .i64 rc,.int .i64 rd,.slice sa sn sc,.slice ka kn kc] 37)) base ta tn T):=h.t.called hb0
 have C0:Hid (SL (w.alloc (.cells #[.int .i64 hw,.int .i64 hh,.int .i64 hd,.int .i64 hc',.bool lace,.slice ta tn tc,.slice ca cn cc,.int .i64 rw',.int .i64 rh,.int .i64 rc,.int .i64 rd,.slice sa sn sc,.slice ka kn kc] 37)) base ca cn cc C):=h.c.called hb0
 have S0:Hid (SL (w.alloc (.cells #[.int .i64 hw,.int .i64 hh,.int .i64 hd,.int .i64 hc',.bool lace,.slice ta tn tc,.slice ca cn cc,.int .i64 rw',.int .i64 rh,.int .i64 rc,.int .i64 rd,.slice sa sn sc,.slice ka kn kc] 37)) base sa sn sc S):=h.s.called hb0
 have K0:Hid (KSL (w.alloc (.cells #[.int .i64 hw,.int .i64 hh,.int .i64 hd,.int .i64 hc',.bool lace,.slice ta tn tc,.slice ca cn cc,.int .i64 rw',.int .i64 rh,.int .i64 rc,.int .i64 rd,.slice sa sn sc,.slice ka kn kc] 37)) base ka kn K):=h.k.called hb0
 clear h hZ hb0
 show Calls Tryz.prog 13 #[.agg #[.int .i64 hw,.int .i64 hh,.int .i64 hd,.int .i64 hc',.bool lace,.slice ta tn tc,.slice ca cn cc,.int .i64 rw',.int .i64 rh,.int .i64 rc,.int .i64 rd,.slice sa sn sc,.slice ka kn kc],.int .i64 (k:Int)] w _
 go_enter Tryz.func13,Tryz.ntmps13
 go_wp2_with fail
 refine (markRgbs_step base ta tn tc k T _ T0.out ht' (by omega)).mono ?_
 rintro e w1 ⟨rfl,hS,hG⟩
 have H1:=hid_of (H0.out.next hG (by decide))
 have T1:=hid_of hS
 have C1:=hid_of (C0.out.stays hG (.inr (.inl (by decide))))
 have S1:=hid_of (S0.out.stays hG (.inr (.inl (by decide))))
 have K1:=hid_of (K0.out.stays hG (by decide))
 clear hS hG H0 T0 C0 S0 K0
 have a6:=(cell_of_block H1.out.2.2.1 6).trans rfl
 have l0:=block_lt H1.out.2.2.1
 go_wp2_with fail
 clear a6 l0
 refine (markIntsP_step base ca cn cc (k+3 * tn) C _ C1.out hc2 (by omega)).mono ?_
 rintro e w2 ⟨rfl,hS,hG⟩
 have H2:=hid_of (H1.out.next hG (by decide))
 have T2:=hid_of (T1.out.stays hG (by decide))
 have C2:=hid_of hS
 have S2:Hid (SL w2 base sa sn sc S):=S1.out.stays hG (by rcases HNE.out.1 with h0 | h0 | h0; exact .inr (.inr (.inl h0)); exact .inl h0; exact .inr (.inr (.inr h0)))
 have K2:=hid_of (K1.out.stays hG (by decide))
 clear hS hG H1 T1 C1 S1 K1
 have l0:=block_lt H2.out.2.2.1
 have a7:=(cell_of_block H2.out.2.2.1 7).trans rfl
 have a8:=(cell_of_block H2.out.2.2.1 8).trans rfl
 have a9:=(cell_of_block H2.out.2.2.1 9).trans rfl
 have a10:=(cell_of_block H2.out.2.2.1 10).trans rfl
 have a11:=(cell_of_block H2.out.2.2.1 11).trans rfl
 go_wp2_with fail
 clear l0 a7 a8 a9 a10 a11
 refine (markRasP_step rw' rh rc rd base sa sn sc (k+3 * tn+cn) S _ S2.out hs' (by omega)).mono ?_
 rintro e w3 ⟨rfl,hS,hG⟩
 have H3:=hid_of (H2.out.next hG (by decide))
 have T3:=hid_of (T2.out.stays hG (by decide))
 have C3:Hid (SL w3 base ca cn cc (fun j=>((k+3 * tn:Nat):Int)+j)):=C2.out.stays hG (by rcases HNE.out.1 with h0 | h0 | h0; exact .inl h0; exact .inr (.inr (.inl h0)); exact .inr (.inr (.inr (Ne.symm h0))))
 have S3:=hid_of hS
 have K3:=hid_of (K2.out.stays hG (by decide))
 clear hS hG H2 T2 C2 S2 K2
 have a12:=(cell_of_block H3.out.2.2.1 12).trans rfl
 have l0:=block_lt H3.out.2.2.1
 go_wp2_with fail
 clear a12 l0
 refine (markChksP_step base ka kn kc (k+3 * tn+cn+sn) K _ K3.out hk' (by omega)).mono ?_
 rintro e w4 ⟨rfl,hS,hG⟩
 have H4:=hid_of (H3.out.next hG (by decide))
 have T4:=hid_of (T3.out.stays hG (by decide))
 have C4:=hid_of (C3.out.stays hG (.inr (.inl (by decide))))
 have S4:=hid_of (S3.out.stays hG (.inr (.inl (by decide))))
 have K4:=hid_of hS
 clear hS hG H3 T3 C3 S3 K3
 go_wp2_with fail
 go_ret
 exact⟨rfl,⟨T4.out,C4.out,S4.out,K4.out,HNE.out.1,HNE.out.2⟩,H4.out.1,H4.out.2.2.2⟩
set_option maxRecDepth 100000 in
set_option maxHeartbeats 3200000 in
theorem heldPng_any (p:Pic) (q:PicA) (k:Nat) (w:World) (h:PngIn w (mrkP k p) q) (hZ:PngSz p) (hk:k≤1000):
  Calls Tryz.prog 14 #[pngV p q,.int .i64 (k:Int)] w fun e w'=>e=.returned (.int .i64 ((k+3 * p.tn+p.cn+p.sn+2 * p.kn:Nat):Int))∧Below w.heap.size w w':=by
 obtain⟨hw,hh,hd,hc',lace,tn,T,cn,C,rw',rh,rc,rd,sn,S,kn,K⟩:=p
 obtain⟨ta,tc,ca,cc,sa,sc,ka,kc⟩:=q
 have ht':tn≤1048576:=hZ.t
 have hc2:cn≤1048576:=hZ.c
 have hs':sn≤1048576:=hZ.s
 have hk':kn≤1048576:=hZ.k
 have HT:Hid (RgbCame w ta tn (rgbMarkedT (k:Int))):=hid_of h.t
 have HC:Hid (Came w ca cn (fun j=>((k+3 * tn:Nat):Int)+j)):=hid_of h.c
 have HS:Hid (Came w sa sn (fun j=>((k+3 * tn+cn:Nat):Int)+j)):=hid_of h.s
 have HK:Hid (KCame w ka kn (mkd (k+3 * tn+cn+sn))):=hid_of h.k
 clear h hZ
 have H0:Hid (Below w.heap.size w (w.alloc (.cells #[.int .i64 hw,.int .i64 hh,.int .i64 hd,.int .i64 hc',.bool lace,.slice ta tn tc,.slice ca cn cc,.int .i64 rw',.int .i64 rh,.int .i64 rc,.int .i64 rd,.slice sa sn sc,.slice ka kn kc] 37))∧(w.alloc (.cells #[.int .i64 hw,.int .i64 hh,.int .i64 hd,.int .i64 hc',.bool lace,.slice ta tn tc,.slice ca cn cc,.int .i64 rw',.int .i64 rh,.int .i64 rc,.int .i64 rd,.slice sa sn sc,.slice ka kn kc] 37)).heap[w.heap.size]?=some (.cells #[.int .i64 hw,.int .i64 hh,.int .i64 hd,.int .i64 hc',.bool lace,.slice ta tn tc,.slice ca cn cc,.int .i64 rw',.int .i64 rh,.int .i64 rc,.int .i64 rd,.slice sa sn sc,.slice ka kn kc] 37 (0,0))):=⟨bstart _ _,heap_alloc_new _ _⟩
 show Calls Tryz.prog 14 #[.agg #[.int .i64 hw,.int .i64 hh,.int .i64 hd,.int .i64 hc',.bool lace,.slice ta tn tc,.slice ca cn cc,.int .i64 rw',.int .i64 rh,.int .i64 rc,.int .i64 rd,.slice sa sn sc,.slice ka kn kc],.int .i64 (k:Int)] w _
 go_enter Tryz.func14,Tryz.ntmps14
 go_wp2_with fail
 refine (heldRgbS_same ta tn tc (k:Int) _ (HT.out.called H0.out.1) ht' (by omega) (by omega)).mono ?_
 rintro e w1 ⟨rfl,hE⟩
 have hB:=below_same hE
 clear hE
 have H1:Hid (Below w.heap.size w w1∧w1.heap[w.heap.size]?=some (.cells #[.int .i64 hw,.int .i64 hh,.int .i64 hd,.int .i64 hc',.bool lace,.slice ta tn tc,.slice ca cn cc,.int .i64 rw',.int .i64 rh,.int .i64 rc,.int .i64 rd,.slice sa sn sc,.slice ka kn kc] 37 (0,0))):=⟨bnext H0.out.1 hB,(hB.block _ (block_lt H0.out.2)).trans H0.out.2⟩
 have d1:decide ((k:Int)+3 * (tn:Int) < 0)=false:=decide_eq_false (by omega)
 have a6:=(cell_of_block H1.out.2 6).trans rfl
 have l0:=block_lt H1.out.2
 have ek:Hid ((k:Int)+3 * (tn:Int)=((k+3 * tn:Nat):Int)):=by show _=_; omega
 clear hB H0
 go_wp2_with fail
 rw[ek.out]
 refine (heldIntS_same ca cn cc ((k+3 * tn:Nat):Int) _ (HC.out.called H1.out.1) hc2 (by omega) (by omega)).mono ?_
 rintro e w2 ⟨rfl,hB⟩
 have H2:Hid (Below w.heap.size w w2∧w2.heap[w.heap.size]?=some (.cells #[.int .i64 hw,.int .i64 hh,.int .i64 hd,.int .i64 hc',.bool lace,.slice ta tn tc,.slice ca cn cc,.int .i64 rw',.int .i64 rh,.int .i64 rc,.int .i64 rd,.slice sa sn sc,.slice ka kn kc] 37 (0,0))):=⟨bnext H1.out.1 hB,(hB.block _ (block_lt H1.out.2)).trans H1.out.2⟩
 clear hB H1 a6 l0 ek d1
 have ek:Hid (((k+3 * tn:Nat):Int)+(cn:Int)=((k+3 * tn+cn:Nat):Int)):=by show _=_; omega
 rw[ek.out]
 have d2:decide (((k+3 * tn+cn:Nat):Int) < 0)=false:=decide_eq_false (by omega)
 have l0:=block_lt H2.out.2
 have a7:=(cell_of_block H2.out.2 7).trans rfl
 have a8:=(cell_of_block H2.out.2 8).trans rfl
 have a9:=(cell_of_block H2.out.2 9).trans rfl
 have a10:=(cell_of_block H2.out.2 10).trans rfl
 have a11:=(cell_of_block H2.out.2 11).trans rfl
 go_wp2_with fail
 clear l0 a7 a8 a9 a10 a11 d2
 refine (heldRaster_same rw' rh rc rd sa sn sc ((k+3 * tn+cn:Nat):Int) _ (HS.out.called H2.out.1) hs' (by omega) (by omega)).mono ?_
 rintro e w3 ⟨rfl,hB⟩
 have H3:Hid (Below w.heap.size w w3∧w3.heap[w.heap.size]?=some (.cells #[.int .i64 hw,.int .i64 hh,.int .i64 hd,.int .i64 hc',.bool lace,.slice ta tn tc,.slice ca cn cc,.int .i64 rw',.int .i64 rh,.int .i64 rc,.int .i64 rd,.slice sa sn sc,.slice ka kn kc] 37 (0,0))):=⟨bnext H2.out.1 hB,(hB.block _ (block_lt H2.out.2)).trans H2.out.2⟩
 clear hB H2 ek
 have ek:Hid (((k+3 * tn+cn:Nat):Int)+(sn:Int)=((k+3 * tn+cn+sn:Nat):Int)):=by show _=_; omega
 rw[ek.out]
 have d3:decide (((k+3 * tn+cn+sn:Nat):Int) < 0)=false:=decide_eq_false (by omega)
 have l0:=block_lt H3.out.2
 have a12:=(cell_of_block H3.out.2 12).trans rfl
 go_wp2_with fail
 clear l0 a12 d3
 refine (heldChunkS_same ka kn kc (k+3 * tn+cn+sn) _ (HK.out.called H3.out.1) hk' (by omega)).mono ?_
 rintro e w4 ⟨rfl,hB⟩
 have H4:=hid_of (bnext H3.out.1 hB)
 have d4:decide (((k+3 * tn+cn+sn+2 * kn:Nat):Int) < 0)=false:=decide_eq_false (by omega)
 clear hB H3 ek
 go_wp2_with fail
 go_ret
 exact⟨rfl,H4.out⟩
end
section
open Go.RowKit Go.Joins OutMath PutMath RastMath HeadMath ChunkMath
structure PngAt (w:World) (base B:Nat) (m:Pic) (q:PicA):Prop where
 t:m.tn=0∨∃ g,q.ta=some ⟨g,0,none⟩∧g < B∧RgbOwn w base g m.tn m.T
 c:m.cn=0∨∃ g,q.ca=some ⟨g,0,none⟩∧g < B∧IOwn w base g m.cn q.cc m.C
 s:m.sn=0∨∃ g,q.sa=some ⟨g,0,none⟩∧g < B∧IOwn w base g m.sn q.sc m.S
 k:m.kn=0∨∃ g,q.ka=some ⟨g,0,none⟩∧g < B∧KOwn w base g m.kn m.K
 ne:m.cn=0∨m.sn=0∨q.ca≠q.sa
 capped:m.sn≤q.sc∧q.sc≤maxLen
theorem PngSL.at_ {w:World} {base:Nat} {m:Pic} {q:PicA} (h:PngSL w base m q):PngAt w base w.heap.size m q:=by
 refine⟨?_,?_,?_,?_,h.ne,h.capped⟩
 ·rcases h.t with h | ⟨g,e,ho⟩
  ·exact .inl h
  ·exact .inr ⟨g,e,ho.lt,ho⟩
 ·rcases h.c with h | ⟨g,e,ho⟩
  ·exact .inl h
  ·exact .inr ⟨g,e,ho.lt,ho⟩
 ·rcases h.s with h | ⟨g,e,ho⟩
  ·exact .inl h
  ·exact .inr ⟨g,e,ho.lt,ho⟩
 ·rcases h.k with h | ⟨g,e,ho⟩
  ·exact .inl h
  ·exact .inr ⟨g,e,ho.lt,ho⟩
theorem PngAt.stay {w w':World} {base B:Nat} {m:Pic} {q:PicA} (h:PngAt w base B m q) (hk:∀ g,base≤g→g < B→w'.heap[g]?=w.heap[g]?):PngAt w' base B m q:=by
 refine⟨?_,?_,?_,?_,h.ne,h.capped⟩
 ·rcases h.t with h | ⟨g,e,hl,ho⟩
  ·exact .inl h
  ·exact .inr ⟨g,e,hl,ho.keep (hk g ho.1 hl)⟩
 ·rcases h.c with h | ⟨g,e,hl,ho⟩
  ·exact .inl h
  ·exact .inr ⟨g,e,hl,ho.keep (hk g ho.base_le hl)⟩
 ·rcases h.s with h | ⟨g,e,hl,ho⟩
  ·exact .inl h
  ·exact .inr ⟨g,e,hl,ho.keep (hk g ho.base_le hl)⟩
 ·rcases h.k with h | ⟨g,e,hl,ho⟩
  ·exact .inl h
  ·exact .inr ⟨g,e,hl,ho.keep (hk g ho.1 hl)⟩
theorem PngAt.sl {w:World} {base B:Nat} {m:Pic} {q:PicA} (h:PngAt w base B m q):PngSL w base m q:=by
 refine⟨?_,?_,?_,?_,h.ne,h.capped⟩
 ·rcases h.t with h | ⟨g,e,_,ho⟩
  ·exact .inl h
  ·exact .inr ⟨g,e,ho⟩
 ·rcases h.c with h | ⟨g,e,_,ho⟩
  ·exact .inl h
  ·exact .inr ⟨g,e,ho⟩
 ·rcases h.s with h | ⟨g,e,_,ho⟩
  ·exact .inl h
  ·exact .inr ⟨g,e,ho⟩
 ·rcases h.k with h | ⟨g,e,_,ho⟩
  ·exact .inl h
  ·exact .inr ⟨g,e,ho⟩
theorem PngAt.marked {u u':World} {b7 B7 k:Nat} {m:Pic} {q:PicA} (h:PngAt u b7 B7 m q) (hS:PngSL u' b7 (mrkP k m) q):PngAt u' b7 B7 (mrkP k m) q:=by
 refine⟨?_,?_,?_,?_,hS.ne,hS.capped⟩
 ·rcases hS.t with h0 | ⟨g,e,ho⟩
  ·exact .inl h0
  ·rcases h.t with h1 | ⟨g1,e1,l1,_⟩
   ·exact .inl h1
   ·rw[e1] at e; cases e; exact .inr ⟨_,e1,l1,ho⟩
 ·rcases hS.c with h0 | ⟨g,e,ho⟩
  ·exact .inl h0
  ·rcases h.c with h1 | ⟨g1,e1,l1,_⟩
   ·exact .inl h1
   ·rw[e1] at e; cases e; exact .inr ⟨_,e1,l1,ho⟩
 ·rcases hS.s with h0 | ⟨g,e,ho⟩
  ·exact .inl h0
  ·rcases h.s with h1 | ⟨g1,e1,l1,_⟩
   ·exact .inl h1
   ·rw[e1] at e; cases e; exact .inr ⟨_,e1,l1,ho⟩
 ·rcases hS.k with h0 | ⟨g,e,ho⟩
  ·exact .inl h0
  ·rcases h.k with h1 | ⟨g1,e1,l1,_⟩
   ·exact .inl h1
   ·rw[e1] at e; cases e; exact .inr ⟨_,e1,l1,ho⟩
structure PLaw (w u:World) (A0 A2 C4 C7:Array Value) (Y4 Y6 Y7 b0 B0 b7 B7:Nat) (m m':Pic) (qa qb:PicA):Prop where
 l:LBox w u A0
 y4:BoxAt u Y4 C4
 y6:BoxAt u Y6 A2
 y7:BoxAt u Y7 C7
 a:PngAt u b0 B0 m qa
 b:PngAt u b7 B7 m' qb
 o1:w.heap.size < Y4∧w.heap.size < b0∧B0≤Y4∧Y4 < Y6∧Y6 < b7∧B7≤Y7∧Y6 < Y7
theorem PLaw.called {w u u':World} {A0 A2 C4 C7:Array Value} {Y4 Y6 Y7 b0 B0 b7 B7:Nat} {m m':Pic} {qa qb:PicA} (h:PLaw w u A0 A2 C4 C7 Y4 Y6 Y7 b0 B0 b7 B7 m m' qa qb) (hb:Below u.heap.size u u'):PLaw w u' A0 A2 C4 C7 Y4 Y6 Y7 b0 B0 b7 B7 m m' qa qb:=by
 have h7:=block_lt h.y7
 have h4:=block_lt h.y4
 have ho:=h.o1
 exact⟨h.l.called hb,h.y4.called hb,h.y6.called hb,h.y7.called hb,h.a.stay fun g _ h2=>hb.block g (by omega),h.b.stay fun g _ h2=>hb.block g (by omega),h.o1⟩
theorem PLaw.wrote {w u u':World} {A0 A2 C4 C7:Array Value} {Y4 Y6 Y7 b0 B0 b7 B7 gt gc gs gk:Nat} {m m':Pic} {qa qb:PicA} (h:PLaw w u A0 A2 C4 C7 Y4 Y6 Y7 b0 B0 b7 B7 m m' qa qb) (hW:Wrote gt gc gs gk u u') (hr:Y4 < gt∧gt < gc∧gc < gs∧gs < gk∧gk < Y6):PLaw w u' A0 A2 C4 C7 Y4 Y6 Y7 b0 B0 b7 B7 m m' qa qb:=by
 obtain⟨h1,h2,h3⟩:=hW
 have h7:=block_lt h.y7
 have h6:=block_lt h.y6
 have h4:=block_lt h.y4
 have h0:=block_lt h.l.1
 have ho:=h.o1
 refine⟨⟨(h3 _ h0 (by omega) (by omega) (by omega) (by omega)).trans h.l.1,h2 _ _ h.l.2 (by omega) (by omega) (by omega) (by omega) (by omega)⟩,(h3 _ h4 (by omega) (by omega) (by omega) (by omega)).trans h.y4,(h3 _ h6 (by omega) (by omega) (by omega) (by omega)).trans h.y6,(h3 _ h7 ?_ ?_ ?_ ?_).trans h.y7,h.a.stay fun g _ hg=>h3 g (by omega) (by omega) (by omega) (by omega) (by omega),h.b.stay fun g hb hg=>h3 g (by omega) (by omega) (by omega) (by omega) (by omega),h.o1⟩
 all_goals intro e
 all_goals
  have h8:=h.y6
  have h9:=h.y7
  omega
structure PAll (w u:World) (A0 A2 C4 C7:Array Value) (Y4 Y6 Y7 b0 B0 b7 B7:Nat) (m m':Pic) (qa qb:PicA) (P:Pic) (q:PicA) (bc gt gc gs gk:Nat):Prop where
 m:PLaw w u A0 A2 C4 C7 Y4 Y6 Y7 b0 B0 b7 B7 m m' qa qb
 p:PngIn u P q
 o:PngOwn u bc P gt gc gs gk
theorem PAll.called {w u u':World} {A0 A2 C4 C7:Array Value} {Y4 Y6 Y7 b0 B0 b7 B7:Nat} {m m':Pic} {qa qb:PicA} {P:Pic} {q:PicA} {bc gt gc gs gk:Nat} (h:PAll w u A0 A2 C4 C7 Y4 Y6 Y7 b0 B0 b7 B7 m m' qa qb P q bc gt gc gs gk) (hb:Below u.heap.size u u'):PAll w u' A0 A2 C4 C7 Y4 Y6 Y7 b0 B0 b7 B7 m m' qa qb P q bc gt gc gs gk:=⟨h.m.called hb,h.p.called hb,h.o.called hb⟩
theorem PLaw.marked {w u u':World} {A0 A2 C4 C7:Array Value} {Y4 Y6 Y7 b0 B0 b7 B7 k:Nat} {m m':Pic} {qa qb:PicA} (h:PLaw w u A0 A2 C4 C7 Y4 Y6 Y7 b0 B0 b7 B7 m m' qa qb) (hS:PngSL u' b7 (mrkP k m') qb) (hB:∀ (B:Nat) (w0:World),Below B w0 u→B≤u.heap.size→B≤b7→Below B w0 u') (hM:∀ (g:Nat) (cs:Array Value),u.heap[g]?=some (.cells cs 37 (0,0))→u'.heap[g]?=u.heap[g]?):PLaw w u' A0 A2 C4 C7 Y4 Y6 Y7 b0 B0 b7 B7 m (mrkP k m') qa qb:=by
 have ho:=h.o1
 have h6:=block_lt h.y6
 have h7:=block_lt h.y7
 have hbb:Below (Y6+1) u u':=hB (Y6+1) u (Below.refl _ _) (by omega) (by omega)
 have hl:=h.l
 exact⟨⟨(hbb.block _ (by omega)).trans h.l.1,hB _ _ h.l.2 (by omega) (by omega)⟩,(hbb.block _ (by omega)).trans h.y4,(hbb.block _ (by omega)).trans h.y6,(hM _ _ h.y7).trans h.y7,h.a.stay fun g h1 h2=>hbb.block g (by omega),h.b.marked hS,h.o1⟩
end
section
open Go.RowKit Go.Joins HeadMath ChunkMath
def MoP (w:World) (A:Array Value) (u:World):Prop:=u.heap[w.heap.size]?=some (.cells A 37 (0,0))∧(∃ Z,u.heap[w.heap.size+1]?=some (.cells Z 37 (0,0))∧Z.size=13)∧Below w.heap.size w u
theorem MoP.start (w:World) (A Z:Array Value) (hz:Z.size=13):MoP w A ((w.alloc (.cells A 37)).alloc (.cells Z 37)):=by
 refine⟨?_,⟨Z,?_,hz⟩,bal (bstart _ _) _⟩
 ·show ((w.heap.push _).push _)[w.heap.size]?=_
  rw[Array.getElem?_push,if_neg (by simp),Array.getElem?_push,if_pos (by simp)]
 ·show ((w.heap.push _).push _)[w.heap.size+1]?=_
  rw[Array.getElem?_push,if_pos (by simp)]
theorem MoP.called {w u u':World} {A:Array Value} (h:MoP w A u) (hb:Below u.heap.size u u'):MoP w A u':=by
 obtain⟨h1,⟨Z,h2,hz⟩,h3⟩:=h
 exact⟨(hb.block _ (block_lt h1)).trans h1,⟨Z,(hb.block _ (block_lt h2)).trans h2,hz⟩,bnext h3 hb⟩
theorem MoP.put {w u:World} {A:Array Value} (h:MoP w A u) (k:Nat) (v:Value):MoP w A (u.setCell ⟨w.heap.size+1,k,none⟩ v):=by
 obtain⟨h1,⟨Z,h2,hz⟩,h3⟩:=h
 refine⟨?_,⟨Z.setIfInBounds k v,?_,by simpa using hz⟩,h3.setCell (p:=⟨w.heap.size+1,k,none⟩) (by simp) v⟩
 ·rw[Below.heap_setCell _ _ _ _ (by simp)]; exact h1
 ·simp[World.setCell,Array.getElem?_modify,h2]
theorem MoP.other {w u:World} {A:Array Value} (h:MoP w A u) (X k:Nat) (v:Value) (hX:w.heap.size+1 < X):MoP w A (u.setCell ⟨X,k,none⟩ v):=by
 obtain⟨h1,⟨Z,h2,hz⟩,h3⟩:=h
 refine⟨?_,⟨Z,?_,hz⟩,h3.setCell (p:=⟨X,k,none⟩) (by show w.heap.size≤X; omega) v⟩
 ·rw[Below.heap_setCell _ _ _ _ (by show w.heap.size≠X; omega)]; exact h1
 ·rw[Below.heap_setCell _ _ _ _ (by show w.heap.size+1≠X; omega)]; exact h2
theorem MoP.cells {w u:World} {A:Array Value} (h:MoP w A u):(∃ c0 c1 c2 c3 c4 c5 c6 c7 c8 c9 c10 c11 c12,u.cell? ⟨w.heap.size+1,0,none⟩=some c0∧u.cell? ⟨w.heap.size+1,1,none⟩=some c1∧u.cell? ⟨w.heap.size+1,2,none⟩=some c2∧u.cell? ⟨w.heap.size+1,3,none⟩=some c3∧u.cell? ⟨w.heap.size+1,4,none⟩=some c4∧u.cell? ⟨w.heap.size+1,5,none⟩=some c5∧u.cell? ⟨w.heap.size+1,6,none⟩=some c6∧u.cell? ⟨w.heap.size+1,7,none⟩=some c7∧u.cell? ⟨w.heap.size+1,8,none⟩=some c8∧u.cell? ⟨w.heap.size+1,9,none⟩=some c9∧u.cell? ⟨w.heap.size+1,10,none⟩=some c10∧u.cell? ⟨w.heap.size+1,11,none⟩=some c11∧u.cell? ⟨w.heap.size+1,12,none⟩=some c12)∧(∀ k,u.frozen? ⟨w.heap.size+1,k,none⟩=false)∧w.heap.size+1 < u.heap.size:=by
 obtain⟨_,⟨Z,h2,hz⟩,_⟩:=h
 exact⟨⟨Z[0]'(by omega),Z[1]'(by omega),Z[2]'(by omega),Z[3]'(by omega),Z[4]'(by omega),Z[5]'(by omega),Z[6]'(by omega),Z[7]'(by omega),Z[8]'(by omega),Z[9]'(by omega),Z[10]'(by omega),Z[11]'(by omega),Z[12]'(by omega),(cell_of_block h2 0).trans (Array.getElem?_eq_getElem (by omega)),(cell_of_block h2 1).trans (Array.getElem?_eq_getElem (by omega)),(cell_of_block h2 2).trans (Array.getElem?_eq_getElem (by omega)),(cell_of_block h2 3).trans (Array.getElem?_eq_getElem (by omega)),(cell_of_block h2 4).trans (Array.getElem?_eq_getElem (by omega)),(cell_of_block h2 5).trans (Array.getElem?_eq_getElem (by omega)),(cell_of_block h2 6).trans (Array.getElem?_eq_getElem (by omega)),(cell_of_block h2 7).trans (Array.getElem?_eq_getElem (by omega)),(cell_of_block h2 8).trans (Array.getElem?_eq_getElem (by omega)),(cell_of_block h2 9).trans (Array.getElem?_eq_getElem (by omega)),(cell_of_block h2 10).trans (Array.getElem?_eq_getElem (by omega)),(cell_of_block h2 11).trans (Array.getElem?_eq_getElem (by omega)),(cell_of_block h2 12).trans (Array.getElem?_eq_getElem (by omega))⟩,unfrozen_of_block h2,block_lt h2⟩
theorem ksl_low2 {w:World} {base b:Nat} {a:Option Addr} {n:Nat} {F:Nat→Chk} (h:KSL w base a n F) (hb:b≤base):KSL w b a n F:=by
 rcases h with h | ⟨g,e,h1,h2⟩
 ·exact .inl h
 ·exact .inr ⟨g,e,Nat.le_trans hb h1,h2⟩
theorem sl_low2 {w:World} {base b:Nat} {a:Option Addr} {n c:Nat} {f:Nat→Int} (h:SL w base a n c f) (hb:b≤base):SL w b a n c f:=by
 rcases h with h | ⟨g,e,h⟩
 ·exact .inl h
 ·exact .inr ⟨g,e,h.mono hb⟩
theorem BoxAt.put {w:World} {B:Nat} {O:Array Value} (h:BoxAt w B O) (k:Nat) (v:Value):BoxAt (w.setCell ⟨B,k,none⟩ v) B (O.setIfInBounds k v):=by
 unfold BoxAt at h ⊢
 simp[World.setCell,Array.getElem?_modify,h]
theorem KSL.put {w:World} {b X:Nat} {O:Array Value} {a:Option Addr} {n:Nat} {F:Nat→Chk} (h:KSL w b a n F) (hX:BoxAt w X O) (k:Nat) (v:Value):KSL (w.setCell ⟨X,k,none⟩ v) b a n F:=by
 rcases h with h | ⟨g,e,h⟩
 ·exact .inl h
 ·refine .inr ⟨g,e,h.keep (Below.heap_setCell _ _ _ _ fun q=>?_)⟩
  obtain⟨_,cur,hh,_⟩:=h
  have q':g=X:=q
  rw[q',hX] at hh
  cases hh
structure WK (w:World) (A:Array Value) (X:Nat) (O:Array Value) (a:Option Addr) (n:Nat) (F:Nat→Chk) (u:World):Prop where
 m:MoP w A u
 x:BoxAt u X O
 k:KSL u w.heap.size a n F
 lt:w.heap.size+1 < X
theorem WK.called {w u u':World} {A O:Array Value} {X n:Nat} {a:Option Addr} {F:Nat→Chk} (h:WK w A X O a n F u) (hb:Below u.heap.size u u'):WK w A X O a n F u':=⟨h.m.called hb,h.x.called hb,h.k.called hb,h.lt⟩
theorem WK.set {w u:World} {A O:Array Value} {X n:Nat} {a:Option Addr} {F:Nat→Chk} (h:WK w A X O a n F u) (k:Nat) (v:Value):WK w A X (O.setIfInBounds k v) a n F (u.setCell ⟨X,k,none⟩ v):=⟨h.m.other X k v h.lt,h.x.put k v,h.k.put h.x k v,h.lt⟩
theorem WK.put {w u:World} {A O:Array Value} {X n:Nat} {a:Option Addr} {F:Nat→Chk} (h:WK w A X O a n F u) (k:Nat) (v:Value):WK w A X O a n F (u.setCell ⟨w.heap.size+1,k,none⟩ v):=by
 obtain⟨Z,h2,_⟩:=h.m.2.1
 exact⟨h.m.put k v,by rw [BoxAt,Below.heap_setCell _ _ _ _ (by show X≠w.heap.size+1; have:=h.lt; omega)]; exact h.x,KSL.put (O:=Z) h.k h2 k v,h.lt⟩
def WithPost (w:World) (p:Pic) (col dep:Int) (sa:Option Addr) (sn sc:Nat) (ca:Option Addr) (cn cc:Nat) (e:Ending) (w':World):Prop:=∃ k kc,e=.returned (.agg #[.int .i64 p.hw,.int .i64 p.hh,.int .i64 dep,.int .i64 col,.bool p.lace,.slice none 0 0,.slice ca cn cc,.int .i64 p.hw,.int .i64 p.hh,.int .i64 col,.int .i64 dep,.slice sa sn sc,.slice k p.kn kc])∧KSL w' w.heap.size k p.kn p.K∧Below w.heap.size w w'
end
section
open Go.RowKit OutMath PutMath RastMath HeadMath ChunkMath CrcMath
def SafeR (x:ByteArray):Prop:=NameR x∧97≤byteAt x 3
def TouchyR (n:Nat) (K:Nat→Chk):Prop:=¬ ∀ i,i < n→SafeR (K i).1
def sbitN:ByteArray:=⟨#[115,66,73,84]⟩
def bkgdN:ByteArray:=⟨#[98,75,71,68]⟩
def histN:ByteArray:=⟨#[104,73,83,84]⟩
theorem sbit_not:¬ SafeR sbitN:=fun h=>absurd h.2 (by decide)
theorem bkgd_not:¬ SafeR bkgdN:=fun h=>absurd h.2 (by decide)
theorem hist_not:¬ SafeR histN:=fun h=>absurd h.2 (by decide)
theorem sbit_list:sbitN.toList=[115,66,73,84]:=by rw [ByteArray.toList_eq]; rfl
theorem bkgd_list:bkgdN.toList=[98,75,71,68]:=by rw [ByteArray.toList_eq]; rfl
theorem hist_list:histN.toList=[104,73,83,84]:=by rw [ByteArray.toList_eq]; rfl
def MayR (p:Pic):Prop:=PngR p∧¬ TouchyR p.kn p.K
theorem fit_65535 {f:Nat→Int} {n d:Nat} (h:Fit12 f n d) (hd:d≤16):∀ i,i < n→0≤f i∧f i≤65535:=fun i hi=>by
 have q:=h i hi
 have q2:p2 d≤p2 16:=by unfold p2; exact_mod_cast Nat.pow_le_pow_right (by omega) hd
 have q3:p2 16=65536:=by decide
 omega
theorem depth_16 {c d:Int} (h:DepthR c d):d.toNat≤16∧1≤d∧d≤16:=by
 unfold DepthR Five at h
 omega
theorem png_fits {p:Pic} (h:PngR p):p.sn≤2304∧(∀ i,i < p.sn→0≤p.S i∧p.S i≤65535)∧p.cn≤256∧(∀ i,i < p.cn→0≤p.C i∧p.C i≤65535)∧p.kn≤32:=by
 obtain⟨⟨⟨_,_,hD⟩,⟨⟨a1,a2⟩,⟨b1,b2⟩,_,hn,hS⟩,e1,e2,e3,e4⟩,hT,hC,_,hK⟩:=h
 refine⟨?_,fit_65535 hS (by rw [e4]; exact (depth_16 hD).1),?_,?_,hK.1⟩
 ·have h1:0≤p.rw * p.rh:=Int.mul_nonneg (by omega) (by omega)
  have h2:p.rw * p.rh≤24 * 24:=Int.mul_le_mul a2 b2 (by omega) (by omega)
  have h3:=chan_range p.rc
  have h4:p.rw * p.rh * chan p.rc≤24 * 24 * 4:=Int.mul_le_mul h2 h3.2 h3.1 (by omega)
  omega
 ·rcases hC with h | ⟨_,⟨_,h,_⟩ | ⟨_,h,_⟩ | ⟨h3,h,_⟩⟩
  ·omega
  ·omega
  ·omega
  ·unfold FitsR at hT
   rw[if_pos h3] at hT
   have:=hT.1.1.2
   omega
 ·rcases hC with h | ⟨_,⟨_,_,h⟩ | ⟨_,_,h⟩ | ⟨_,_,h⟩⟩
  ·intro i hi; omega
  ·exact fit_65535 h (depth_16 hD).1
  ·exact fit_65535 h (depth_16 hD).1
  ·exact fit_65535 h (by omega)
end
end Go.Proofs.YtkpbfmdnjnohlaaGreat
