/-
  Texts of the proof, put together.
-/
import Derived.Test.YtkpbfmdnjnohlaaGreatRd02
namespace Go.Proofs.YtkpbfmdnjnohlaaGreat
section
open Go.RowKit Go.Joins HeadMath ChunkMath
theorem below_same {w w1:World} (h:w1=w):Below w.heap.size w w1:=h ▸ Below.refl _ _
structure PngSL (w:World) (base:Nat) (p:Pic) (q:PicA):Prop where
 t:RgbSL w base q.ta p.tn p.T
 c:SL w base q.ca p.cn q.cc p.C
 s:SL w base q.sa p.sn q.sc p.S
 k:KSL w base q.ka p.kn p.K
 ne:p.cn=0∨p.sn=0∨q.ca≠q.sa
 capped:p.sn≤q.sc∧q.sc≤maxLen
theorem PngSL.called {w w':World} {base:Nat} {p:Pic} {q:PicA} (h:PngSL w base p q) (hb:Below w.heap.size w w'):PngSL w' base p q:=⟨h.t.called hb,h.c.called hb,h.s.called hb,h.k.called hb,h.ne,h.capped⟩
theorem PngSL.lie {w:World} {base:Nat} {p:Pic} {q:PicA} (h:PngSL w base p q):PngIn w p q:=⟨h.t.came,h.c.came,h.s.came,h.k.came,h.capped⟩
def mrkP (k:Nat) (p:Pic):Pic:=⟨p.hw,p.hh,p.hd,p.hc,p.lace,p.tn,rgbMarkedT (k:Int),p.cn,fun j=>((k+3 * p.tn:Nat):Int)+j,p.rw,p.rh,p.rc,p.rd,p.sn,fun j=>((k+3 * p.tn+p.cn:Nat):Int)+j,p.kn,mkd (k+3 * p.tn+p.cn+p.sn)⟩
def PStays (t:TypeId) (n:Nat) (a:Option Addr) (base:Nat) (w w':World):Prop:=(∀ (B:Nat) (w0:World),Below B w0 w→B≤w.heap.size→B≤base→Below B w0 w')∧w.heap.size≤w'.heap.size∧∀ (g:Nat) (cs:Array Value) (u:TypeId) (fz:Nat×Nat),w.heap[g]?=some (.cells cs u fz)→(u≠t∨n=0∨a≠some ⟨g,0,none⟩)→w'.heap[g]?=w.heap[g]?
theorem PStays.nil (t:TypeId) (n:Nat) (a:Option Addr) (base:Nat) (w:World):PStays t n a base w w:=⟨fun _ _ h _ _=>h,Nat.le_refl _,fun _ _ _ _ _ _=>rfl⟩
theorem PStays.one {t:TypeId} {n base g:Nat} {w w':World} {cs:Array Value} {fz:Nat×Nat} (hh:w.heap[g]?=some (.cells cs t fz)) (hn0:¬ n=0) (hb:base≤g) (hg:w.grownBy w' (some g)):PStays t n (some ⟨g,0,none⟩) base w w':=by
 refine⟨fun B w0 hB h1 h2=>hB.grown hg h1 (fun q hq=>by cases hq; omega),hg.size,fun q cs' u fz' hq hne=>hg.block q (block_lt hq) (fun e=>?_)⟩
 cases e
 rcases hne with hne | hne | hne
 ·rw[hq] at hh; cases hh; exact hne rfl
 ·exact hn0 hne
 ·exact hne rfl
theorem markRgbs_step (base:Nat) (a:Option Addr) (n c k:Nat) (F:Nat→Rgb3) (w:World) (h:RgbSL w base a n F) (hn:n≤1048576) (hk:k≤1000000):
  Calls Tryz.prog 46 #[.slice a n c,.int .i64 (k:Int)] w fun e w'=>e=.returned (.int .i64 ((k+3 * n:Nat):Int))∧RgbSL w' base a n (rgbMarkedT (k:Int))∧PStays 74 n a base w w':=by
 by_cases hn0:n=0
 ·subst hn0
  refine (markRgbS_none a c (k:Int) w).mono ?_
  rintro e w' ⟨rfl,rfl⟩
  exact⟨by simp,.inl rfl,PStays.nil _ _ _ _ _⟩
 ·rcases h with h | ⟨g,rfl,h⟩
  ·exact absurd h hn0
  refine (markRgbS_own base g n c F (k:Int) w h hn (by omega) (by omega)).mono ?_
  rintro e w' ⟨rfl,hO,hg⟩
  obtain⟨hb,cur,hh,_⟩:=id h
  exact⟨by simp,.inr ⟨g,rfl,hO⟩,PStays.one hh hn0 hb hg⟩
theorem markIntsP_step (base:Nat) (a:Option Addr) (n c k:Nat) (f:Nat→Int) (w:World) (h:SL w base a n c f) (hn:n≤1048576) (hk:k≤10000000):
  Calls Tryz.prog 47 #[.slice a n c,.int .i64 (k:Int)] w fun e w'=>e=.returned (.int .i64 ((k+n:Nat):Int))∧SL w' base a n c (fun j=>(k:Int)+j)∧PStays 3 n a base w w':=by
 by_cases hn0:n=0
 ·subst hn0
  refine (markIntS_none a c (k:Int) w).mono ?_
  rintro e w' ⟨rfl,rfl⟩
  exact⟨by simp,.inl rfl,PStays.nil _ _ _ _ _⟩
 ·rcases h with h | ⟨g,rfl,h⟩
  ·exact absurd h hn0
  refine (markIntS_own base g n c f (k:Int) w h hn (by omega) (by omega)).mono ?_
  rintro e w' ⟨rfl,hO,hg⟩
  obtain⟨cap,cur,fz,_,hb,hh,_⟩:=id h
  exact⟨by simp,.inr ⟨g,rfl,hO⟩,PStays.one hh hn0 hb hg⟩
theorem markRasP_step (x0 x1 x2 x3:Int) (base:Nat) (a:Option Addr) (n c k:Nat) (f:Nat→Int) (w:World) (h:SL w base a n c f) (hn:n≤1048576) (hk:k≤100000000):
  Calls Tryz.prog 48 #[.agg #[.int .i64 x0,.int .i64 x1,.int .i64 x2,.int .i64 x3,.slice a n c],.int .i64 (k:Int)] w fun e w'=>e=.returned (.int .i64 ((k+n:Nat):Int))∧SL w' base a n c (fun j=>(k:Int)+j)∧PStays 3 n a base w w':=by
 by_cases hn0:n=0
 ·subst hn0
  refine (markRaster_none x0 x1 x2 x3 a c (k:Int) w).mono ?_
  rintro e w' ⟨rfl,hB⟩
  exact⟨by simp,.inl rfl,fun B w0 h0 h1 _=>h0.trans (hB.mono h1),hB.size,fun g cs u fz hg _=>hB.block g (block_lt hg)⟩
 ·rcases h with h | ⟨g,rfl,h⟩
  ·exact absurd h hn0
  refine (markRaster_mine x0 x1 x2 x3 base g n c f (k:Int) w h hn (by omega) (by omega)).mono ?_
  rintro e w' ⟨rfl,hO,hg⟩
  obtain⟨cap,cur,fz,_,hb,hh,_⟩:=id h
  exact⟨by simp,.inr ⟨g,rfl,hO⟩,PStays.one hh hn0 hb hg⟩
theorem markChksP_step (base:Nat) (a:Option Addr) (n c k:Nat) (F:Nat→Chk) (w:World) (h:KSL w base a n F) (hn:n≤1048576) (hk:k≤10000000):
  Calls Tryz.prog 49 #[.slice a n c,.int .i64 (k:Int)] w fun e w'=>e=.returned (.int .i64 ((k+2 * n:Nat):Int))∧KSL w' base a n (mkd k)∧PStays 93 n a base w w':=by
 by_cases hn0:n=0
 ·subst hn0
  refine (markChunkS_none a c (k:Int) w).mono ?_
  rintro e w' ⟨rfl,rfl⟩
  exact⟨by simp,.inl rfl,PStays.nil _ _ _ _ _⟩
 ·rcases h with h | ⟨g,rfl,h⟩
  ·exact absurd h hn0
  refine (markChunkS_own base g n c F k w h hn hk).mono ?_
  rintro e w' ⟨rfl,hO,hg⟩
  obtain⟨hb,cur,hh,_⟩:=id h
  exact⟨rfl,.inr ⟨g,rfl,hO⟩,PStays.one hh hn0 hb hg⟩
theorem RgbSL.stays {t:TypeId} {nb:Nat} {b:Option Addr} {w w':World} {base bb:Nat} {a:Option Addr} {n:Nat} {F:Nat→Rgb3} (h:RgbSL w base a n F) (hs:PStays t nb b bb w w') (ht:74≠t):RgbSL w' base a n F:=by
 rcases h with h | ⟨g,e,h⟩
 ·exact .inl h
 ·obtain⟨hb,cur,hh,_⟩:=id h
  exact .inr ⟨g,e,h.keep (hs.2.2 g _ _ _ hh (.inl ht))⟩
theorem KSL.stays {t:TypeId} {nb:Nat} {b:Option Addr} {w w':World} {base bb:Nat} {a:Option Addr} {n:Nat} {F:Nat→Chk} (h:KSL w base a n F) (hs:PStays t nb b bb w w') (ht:93≠t):KSL w' base a n F:=by
 rcases h with h | ⟨g,e,h⟩
 ·exact .inl h
 ·obtain⟨hb,cur,hh,_⟩:=id h
  exact .inr ⟨g,e,h.keep (hs.2.2 g _ _ _ hh (.inl ht))⟩
theorem SL.stays {t:TypeId} {nb:Nat} {b:Option Addr} {w w':World} {base bb:Nat} {a:Option Addr} {n c:Nat} {f:Nat→Int} (h:SL w base a n c f) (hs:PStays t nb b bb w w') (ht:n=0∨3≠t∨nb=0∨b≠a):SL w' base a n c f:=by
 rcases h with h | ⟨g,e,h⟩
 ·exact .inl h
 ·rcases ht with ht | ht
  ·exact .inl ht
  obtain⟨cap,cur,fz,_,hb,hh,_⟩:=id h
  exact .inr ⟨g,e,h.keep (hs.2.2 g _ _ _ hh (ht.imp id fun k=>k.imp id fun k=>by rw [← e]; exact k))⟩
theorem PStays.other {t:TypeId} {n:Nat} {a:Option Addr} {base:Nat} {w w':World} (h:PStays t n a base w w') {g:Nat} {cs:Array Value} {fz:Nat×Nat} (hg:w.heap[g]?=some (.cells cs 37 fz)) (ht:37≠t):w'.heap[g]?=some (.cells cs 37 fz):=(h.2.2 g _ _ _ hg (.inl ht)).trans hg
def PngMarks (k base:Nat) (p:Pic) (q:PicA) (w:World) (e:Ending) (w':World):Prop:=e=.returned (.int .i64 ((k+3 * p.tn+p.cn+p.sn+2 * p.kn:Nat):Int))∧PngSL w' base (mrkP k p) q∧(∀ (B:Nat) (w0:World),Below B w0 w→B≤w.heap.size→B≤base→Below B w0 w')∧∀ (g:Nat) (cs:Array Value),w.heap[g]?=some (.cells cs 37 (0,0))→w'.heap[g]?=w.heap[g]?
def PMk (w u:World) (base:Nat) (A:Array Value):Prop:=(∀ (B:Nat) (w0:World),Below B w0 w→B≤w.heap.size→B≤base→Below B w0 u)∧w.heap.size≤u.heap.size∧u.heap[w.heap.size]?=some (.cells A 37 (0,0))∧∀ (g:Nat) (cs:Array Value),w.heap[g]?=some (.cells cs 37 (0,0))→u.heap[g]?=w.heap[g]?
theorem PMk.next {w u u':World} {base:Nat} {A:Array Value} {t:TypeId} {n:Nat} {a:Option Addr} (h:PMk w u base A) (hs:PStays t n a base u u') (ht:37≠t):PMk w u' base A:=
 ⟨fun B w0 hb h1 h2=>hs.1 B w0 (h.1 B w0 hb h1 h2) (Nat.le_trans h1 h.2.1) h2,Nat.le_trans h.2.1 hs.2.1,hs.other h.2.2.1 ht,fun g cs hg=>((hs.2.2 g _ _ _ ((h.2.2.2 g cs hg).trans hg) (.inl ht))).trans (h.2.2.2 g cs hg)⟩
theorem PMk.start (w:World) (base:Nat) (A:Array Value):PMk w (w.alloc (.cells A 37)) base A:=⟨fun B w0 hb h1 _=>hb.trans ((bstart w _).mono h1),by simp,heap_alloc_new w _,fun g cs hg=>(bstart w _).block g (block_lt hg)⟩
set_option maxRecDepth 100000 in
set_option maxHeartbeats 3200000 in
theorem markPng_sl (p:Pic) (q:PicA) (base k:Nat) (w:World) (h:PngSL w base p q) (hZ:PngSz p) (hk:k≤1000):
  Calls Tryz.prog 13 #[pngV p q,.int .i64 (k:Int)] w (PngMarks k base p q w):=by
 obtain⟨hw,hh,hd,hc',lace,tn,T,cn,C,rw',rh,rc,rd,sn,S,kn,K⟩:=p
 obtain⟨ta,tc,ca,cc,sa,sc,ka,kc⟩:=q
 have ht':tn≤1048576:=hZ.t
 have hc2:cn≤1048576:=hZ.c
 have hs':sn≤1048576:=hZ.s
 have hk':kn≤1048576:=hZ.k
 have HNE:Hid ((cn=0∨sn=0∨ca≠sa)∧sn≤sc∧sc≤maxLen):=⟨h.ne,h.capped⟩
 have hb0:=bstart w (.cells #[.int .i64 hw,.int .i64 hh,.int .i64 hd,.int .i64 hc',.bool lace,.slice ta tn tc,.slice ca cn cc,.int .i64 rw',.int .i64 rh,.int .i64 rc,.int .i64 rd,.slice sa sn sc,.slice ka kn kc] 37)
 have H0:Hid (PMk w (w.alloc (.cells #[.int .i64 hw,.int .i64 hh,.int .i64 hd,.int .i64 hc',.bool lace,.slice ta tn tc,.slice ca cn cc,.int .i64 rw',.int .i64 rh,.int .i64 rc,.int .i64 rd,.slice sa sn sc,.slice ka kn kc] 37)) base #[.int .i64 hw,.int .i64 hh,.int .i64 hd,.int .i64 hc',.bool lace,.slice ta tn tc,.slice ca cn cc,.int .i64 rw',.int .i64 rh,.int .i64 rc,.int .i64 rd,.slice sa sn sc,.slice ka kn kc]):=PMk.start w base _
 have T0:Hid (RgbSL (w.alloc (.cells #[.int .i64 hw,.int .i64 hh,.int .i64 hd,.int .i64 hc',.bool lace,.slice ta tn tc,.slice ca cn cc,.int .i64 rw',.int .i64 rh,.int .i64 rc,.int .i64 rd,.slice sa sn sc,.slice ka kn kc] 37)) base ta tn T):=h.t.called hb0
 have C0:Hid (SL (w.alloc (.cells #[.int .i64 hw,.int .i64 hh,.int .i64 hd,.int .i64 hc',.bool lace,.slice ta tn tc,.slice ca cn cc,.int .i64 rw',.int .i64 rh,.int .i64 rc,.int .i64 rd,.slice sa sn sc,.slice ka kn kc] 37)) base ca cn cc C):=h.c.called hb0
 have S0:Hid (SL (w.alloc (.cells #[.int .i64 hw,.int .i64 hh,.int .i64 hd,.int .i64 hc',.bool lace,.slice ta tn tc,.slice ca cn cc,.int .i64 rw',.int .i64 rh,.int .i64 rc,.int .i64 rd,.slice sa sn sc,.slice ka kn kc] 37)) base sa sn sc S):=h.s.called hb0
 have K0:Hid (KSL (w.alloc (.cells #[.int .i64 hw,.int .i64 hh,.int .i64 hd,.int .i64 hc',.bool lace,.slice ta tn tc,.slice ca cn cc,.int .i64 rw',.int .i64 rh,.int .i64 rc,.int .i64 rd,.slice sa sn sc,.slice ka kn kc] 37)) base ka kn K):=h.k.called hb0
 clear h hZ hb0
 show Calls Tryz.prog 13 #[.agg #[.int .i64 hw,.int .i64 hh,.int .i64 hd,.int .i64 hc',.bool lace,.slice ta tn tc,.slice ca cn cc,.int .i64 rw',.int .i64 rh,.int .i64 rc,.int .i64 rd,.slice sa sn sc,.slice ka kn kc],.int .i64 (k:Int)] w _
 go_enter Tryz.func13,Tryz.ntmps13
 go_wp2_with fail
 refine (markRgbs_step base ta tn tc k T _ T0.out ht' (by omega)).mono ?_
 rintro e w1 ⟨rfl,hS,hG⟩
 have H1:=hid_of (H0.out.next hG (by decide))
 have T1:=hid_of hS
 have C1:=hid_of (C0.out.stays hG (.inr (.inl (by decide))))
 have S1:=hid_of (S0.out.stays hG (.inr (.inl (by decide))))
 have K1:=hid_of (K0.out.stays hG (by decide))
 clear hS hG H0 T0 C0 S0 K0
 have a6:=(cell_of_block H1.out.2.2.1 6).trans rfl
 have l0:=block_lt H1.out.2.2.1
 go_wp2_with fail
 clear a6 l0
 refine (markIntsP_step base ca cn cc (k+3 * tn) C _ C1.out hc2 (by omega)).mono ?_
 rintro e w2 ⟨rfl,hS,hG⟩
 have H2:=hid_of (H1.out.next hG (by decide))
 have T2:=hid_of (T1.out.stays hG (by decide))
 have C2:=hid_of hS
 have S2:Hid (SL w2 base sa sn sc S):=S1.out.stays hG (by rcases HNE.out.1 with h0 | h0 | h0; exact .inr (.inr (.inl h0)); exact .inl h0; exact .inr (.inr (.inr h0)))
 have K2:=hid_of (K1.out.stays hG (by decide))
 clear hS hG H1 T1 C1 S1 K1
 have l0:=block_lt H2.out.2.2.1
 obtain⟨a7,a8,a9,a10,a11⟩:=zqg H2.out.2.2.1
 go_wp2_with fail
 clear l0 a7 a8 a9 a10 a11
 refine (markRasP_step rw' rh rc rd base sa sn sc (k+3 * tn+cn) S _ S2.out hs' (by omega)).mono ?_
 rintro e w3 ⟨rfl,hS,hG⟩
 have H3:=hid_of (H2.out.next hG (by decide))
 have T3:=hid_of (T2.out.stays hG (by decide))
 have C3:Hid (SL w3 base ca cn cc (fun j=>((k+3 * tn:Nat):Int)+j)):=C2.out.stays hG (by rcases HNE.out.1 with h0 | h0 | h0; exact .inl h0; exact .inr (.inr (.inl h0)); exact .inr (.inr (.inr (Ne.symm h0))))
 have S3:=hid_of hS
 have K3:=hid_of (K2.out.stays hG (by decide))
 clear hS hG H2 T2 C2 S2 K2
 have a12:=(cell_of_block H3.out.2.2.1 12).trans rfl
 have l0:=block_lt H3.out.2.2.1
 go_wp2_with fail
 clear a12 l0
 refine (markChksP_step base ka kn kc (k+3 * tn+cn+sn) K _ K3.out hk' (by omega)).mono ?_
 rintro e w4 ⟨rfl,hS,hG⟩
 have H4:=hid_of (H3.out.next hG (by decide))
 have T4:=hid_of (T3.out.stays hG (by decide))
 have C4:=hid_of (C3.out.stays hG (.inr (.inl (by decide))))
 have S4:=hid_of (S3.out.stays hG (.inr (.inl (by decide))))
 have K4:=hid_of hS
 clear hS hG H3 T3 C3 S3 K3
 go_wp2_with fail
 go_ret
 exact⟨rfl,⟨T4.out,C4.out,S4.out,K4.out,HNE.out.1,HNE.out.2⟩,H4.out.1,H4.out.2.2.2⟩
set_option maxRecDepth 100000 in
set_option maxHeartbeats 3200000 in
theorem heldPng_any (p:Pic) (q:PicA) (k:Nat) (w:World) (h:PngIn w (mrkP k p) q) (hZ:PngSz p) (hk:k≤1000):
  Calls Tryz.prog 14 #[pngV p q,.int .i64 (k:Int)] w fun e w'=>e=.returned (.int .i64 ((k+3 * p.tn+p.cn+p.sn+2 * p.kn:Nat):Int))∧Below w.heap.size w w':=by
 obtain⟨hw,hh,hd,hc',lace,tn,T,cn,C,rw',rh,rc,rd,sn,S,kn,K⟩:=p
 obtain⟨ta,tc,ca,cc,sa,sc,ka,kc⟩:=q
 have ht':tn≤1048576:=hZ.t
 have hc2:cn≤1048576:=hZ.c
 have hs':sn≤1048576:=hZ.s
 have hk':kn≤1048576:=hZ.k
 have HT:Hid (RgbCame w ta tn (rgbMarkedT (k:Int))):=hid_of h.t
 have HC:Hid (Came w ca cn (fun j=>((k+3 * tn:Nat):Int)+j)):=hid_of h.c
 have HS:Hid (Came w sa sn (fun j=>((k+3 * tn+cn:Nat):Int)+j)):=hid_of h.s
 have HK:Hid (KCame w ka kn (mkd (k+3 * tn+cn+sn))):=hid_of h.k
 clear h hZ
 have H0:Hid (Below w.heap.size w (w.alloc (.cells #[.int .i64 hw,.int .i64 hh,.int .i64 hd,.int .i64 hc',.bool lace,.slice ta tn tc,.slice ca cn cc,.int .i64 rw',.int .i64 rh,.int .i64 rc,.int .i64 rd,.slice sa sn sc,.slice ka kn kc] 37))∧(w.alloc (.cells #[.int .i64 hw,.int .i64 hh,.int .i64 hd,.int .i64 hc',.bool lace,.slice ta tn tc,.slice ca cn cc,.int .i64 rw',.int .i64 rh,.int .i64 rc,.int .i64 rd,.slice sa sn sc,.slice ka kn kc] 37)).heap[w.heap.size]?=some (.cells #[.int .i64 hw,.int .i64 hh,.int .i64 hd,.int .i64 hc',.bool lace,.slice ta tn tc,.slice ca cn cc,.int .i64 rw',.int .i64 rh,.int .i64 rc,.int .i64 rd,.slice sa sn sc,.slice ka kn kc] 37 (0,0))):=⟨bstart _ _,heap_alloc_new _ _⟩
 show Calls Tryz.prog 14 #[.agg #[.int .i64 hw,.int .i64 hh,.int .i64 hd,.int .i64 hc',.bool lace,.slice ta tn tc,.slice ca cn cc,.int .i64 rw',.int .i64 rh,.int .i64 rc,.int .i64 rd,.slice sa sn sc,.slice ka kn kc],.int .i64 (k:Int)] w _
 go_enter Tryz.func14,Tryz.ntmps14
 go_wp2_with fail
 refine (heldRgbS_same ta tn tc (k:Int) _ (HT.out.called H0.out.1) ht' (by omega) (by omega)).mono ?_
 rintro e w1 ⟨rfl,hE⟩
 have hB:=below_same hE
 clear hE
 have H1:Hid (Below w.heap.size w w1∧w1.heap[w.heap.size]?=some (.cells #[.int .i64 hw,.int .i64 hh,.int .i64 hd,.int .i64 hc',.bool lace,.slice ta tn tc,.slice ca cn cc,.int .i64 rw',.int .i64 rh,.int .i64 rc,.int .i64 rd,.slice sa sn sc,.slice ka kn kc] 37 (0,0))):=⟨bnext H0.out.1 hB,(hB.block _ (block_lt H0.out.2)).trans H0.out.2⟩
 have d1:decide ((k:Int)+3 * (tn:Int) < 0)=false:=decide_eq_false (by omega)
 have a6:=(cell_of_block H1.out.2 6).trans rfl
 have l0:=block_lt H1.out.2
 have ek:Hid ((k:Int)+3 * (tn:Int)=((k+3 * tn:Nat):Int)):=by show _=_; omega
 clear hB H0
 go_wp2_with fail
 rw[ek.out]
 refine (heldIntS_same ca cn cc ((k+3 * tn:Nat):Int) _ (HC.out.called H1.out.1) hc2 (by omega) (by omega)).mono ?_
 rintro e w2 ⟨rfl,hB⟩
 have H2:Hid (Below w.heap.size w w2∧w2.heap[w.heap.size]?=some (.cells #[.int .i64 hw,.int .i64 hh,.int .i64 hd,.int .i64 hc',.bool lace,.slice ta tn tc,.slice ca cn cc,.int .i64 rw',.int .i64 rh,.int .i64 rc,.int .i64 rd,.slice sa sn sc,.slice ka kn kc] 37 (0,0))):=⟨bnext H1.out.1 hB,(hB.block _ (block_lt H1.out.2)).trans H1.out.2⟩
 clear hB H1 a6 l0 ek d1
 have ek:Hid (((k+3 * tn:Nat):Int)+(cn:Int)=((k+3 * tn+cn:Nat):Int)):=by show _=_; omega
 rw[ek.out]
 have d2:decide (((k+3 * tn+cn:Nat):Int) < 0)=false:=decide_eq_false (by omega)
 have l0:=block_lt H2.out.2
 obtain⟨a7,a8,a9,a10,a11⟩:=zqg H2.out.2
 go_wp2_with fail
 clear l0 a7 a8 a9 a10 a11 d2
 refine (heldRaster_same rw' rh rc rd sa sn sc ((k+3 * tn+cn:Nat):Int) _ (HS.out.called H2.out.1) hs' (by omega) (by omega)).mono ?_
 rintro e w3 ⟨rfl,hB⟩
 have H3:Hid (Below w.heap.size w w3∧w3.heap[w.heap.size]?=some (.cells #[.int .i64 hw,.int .i64 hh,.int .i64 hd,.int .i64 hc',.bool lace,.slice ta tn tc,.slice ca cn cc,.int .i64 rw',.int .i64 rh,.int .i64 rc,.int .i64 rd,.slice sa sn sc,.slice ka kn kc] 37 (0,0))):=⟨bnext H2.out.1 hB,(hB.block _ (block_lt H2.out.2)).trans H2.out.2⟩
 clear hB H2 ek
 have ek:Hid (((k+3 * tn+cn:Nat):Int)+(sn:Int)=((k+3 * tn+cn+sn:Nat):Int)):=by show _=_; omega
 rw[ek.out]
 have d3:decide (((k+3 * tn+cn+sn:Nat):Int) < 0)=false:=decide_eq_false (by omega)
 have l0:=block_lt H3.out.2
 have a12:=(cell_of_block H3.out.2 12).trans rfl
 go_wp2_with fail
 clear l0 a12 d3
 refine (heldChunkS_same ka kn kc (k+3 * tn+cn+sn) _ (HK.out.called H3.out.1) hk' (by omega)).mono ?_
 rintro e w4 ⟨rfl,hB⟩
 have H4:=hid_of (bnext H3.out.1 hB)
 have d4:decide (((k+3 * tn+cn+sn+2 * kn:Nat):Int) < 0)=false:=decide_eq_false (by omega)
 clear hB H3 ek
 go_wp2_with fail
 go_ret
 exact⟨rfl,H4.out⟩
end
section
open Go.RowKit Go.Joins HeadMath ChunkMath
def MoP (w:World) (A:Array Value) (u:World):Prop:=u.heap[w.heap.size]?=some (.cells A 37 (0,0))∧(∃ Z,u.heap[w.heap.size+1]?=some (.cells Z 37 (0,0))∧Z.size=13)∧Below w.heap.size w u
theorem MoP.start (w:World) (A Z:Array Value) (hz:Z.size=13):MoP w A ((w.alloc (.cells A 37)).alloc (.cells Z 37)):=by
 refine⟨?_,⟨Z,?_,hz⟩,bal (bstart _ _) _⟩
 ·show ((w.heap.push _).push _)[w.heap.size]?=_
  rw[Array.getElem?_push,if_neg (by simp),Array.getElem?_push,if_pos (by simp)]
 ·show ((w.heap.push _).push _)[w.heap.size+1]?=_
  rw[Array.getElem?_push,if_pos (by simp)]
theorem MoP.called {w u u':World} {A:Array Value} (h:MoP w A u) (hb:Below u.heap.size u u'):MoP w A u':=by
 obtain⟨h1,⟨Z,h2,hz⟩,h3⟩:=h
 exact⟨(hb.block _ (block_lt h1)).trans h1,⟨Z,(hb.block _ (block_lt h2)).trans h2,hz⟩,bnext h3 hb⟩
theorem MoP.put {w u:World} {A:Array Value} (h:MoP w A u) (k:Nat) (v:Value):MoP w A (u.setCell ⟨w.heap.size+1,k,none⟩ v):=by
 obtain⟨h1,⟨Z,h2,hz⟩,h3⟩:=h
 refine⟨?_,⟨Z.setIfInBounds k v,?_,by simpa using hz⟩,h3.setCell (p:=⟨w.heap.size+1,k,none⟩) (by simp) v⟩
 ·rw[Below.heap_setCell _ _ _ _ (by simp)]; exact h1
 ·simp[World.setCell,Array.getElem?_modify,h2]
theorem MoP.other {w u:World} {A:Array Value} (h:MoP w A u) (X k:Nat) (v:Value) (hX:w.heap.size+1 < X):MoP w A (u.setCell ⟨X,k,none⟩ v):=by
 obtain⟨h1,⟨Z,h2,hz⟩,h3⟩:=h
 refine⟨?_,⟨Z,?_,hz⟩,h3.setCell (p:=⟨X,k,none⟩) (by show w.heap.size≤X; omega) v⟩
 ·rw[Below.heap_setCell _ _ _ _ (by show w.heap.size≠X; omega)]; exact h1
 ·rw[Below.heap_setCell _ _ _ _ (by show w.heap.size+1≠X; omega)]; exact h2
theorem MoP.cells {w u:World} {A:Array Value} (h:MoP w A u):(∃ c0 c1 c2 c3 c4 c5 c6 c7 c8 c9 c10 c11 c12,u.cell? ⟨w.heap.size+1,0,none⟩=some c0∧u.cell? ⟨w.heap.size+1,1,none⟩=some c1∧u.cell? ⟨w.heap.size+1,2,none⟩=some c2∧u.cell? ⟨w.heap.size+1,3,none⟩=some c3∧u.cell? ⟨w.heap.size+1,4,none⟩=some c4∧u.cell? ⟨w.heap.size+1,5,none⟩=some c5∧u.cell? ⟨w.heap.size+1,6,none⟩=some c6∧u.cell? ⟨w.heap.size+1,7,none⟩=some c7∧u.cell? ⟨w.heap.size+1,8,none⟩=some c8∧u.cell? ⟨w.heap.size+1,9,none⟩=some c9∧u.cell? ⟨w.heap.size+1,10,none⟩=some c10∧u.cell? ⟨w.heap.size+1,11,none⟩=some c11∧u.cell? ⟨w.heap.size+1,12,none⟩=some c12)∧(∀ k,u.frozen? ⟨w.heap.size+1,k,none⟩=false)∧w.heap.size+1 < u.heap.size:=by
 obtain⟨_,⟨Z,h2,hz⟩,_⟩:=h
 exact⟨⟨Z[0]'(by omega),Z[1]'(by omega),Z[2]'(by omega),Z[3]'(by omega),Z[4]'(by omega),Z[5]'(by omega),Z[6]'(by omega),Z[7]'(by omega),Z[8]'(by omega),Z[9]'(by omega),Z[10]'(by omega),Z[11]'(by omega),Z[12]'(by omega),(cell_of_block h2 0).trans (Array.getElem?_eq_getElem (by omega)),(cell_of_block h2 1).trans (Array.getElem?_eq_getElem (by omega)),(cell_of_block h2 2).trans (Array.getElem?_eq_getElem (by omega)),(cell_of_block h2 3).trans (Array.getElem?_eq_getElem (by omega)),(cell_of_block h2 4).trans (Array.getElem?_eq_getElem (by omega)),(cell_of_block h2 5).trans (Array.getElem?_eq_getElem (by omega)),(cell_of_block h2 6).trans (Array.getElem?_eq_getElem (by omega)),(cell_of_block h2 7).trans (Array.getElem?_eq_getElem (by omega)),(cell_of_block h2 8).trans (Array.getElem?_eq_getElem (by omega)),(cell_of_block h2 9).trans (Array.getElem?_eq_getElem (by omega)),(cell_of_block h2 10).trans (Array.getElem?_eq_getElem (by omega)),(cell_of_block h2 11).trans (Array.getElem?_eq_getElem (by omega)),(cell_of_block h2 12).trans (Array.getElem?_eq_getElem (by omega))⟩,unfrozen_of_block h2,block_lt h2⟩
theorem ksl_low2 {w:World} {base b:Nat} {a:Option Addr} {n:Nat} {F:Nat→Chk} (h:KSL w base a n F) (hb:b≤base):KSL w b a n F:=by
 rcases h with h | ⟨g,e,h1,h2⟩
 ·exact .inl h
 ·exact .inr ⟨g,e,Nat.le_trans hb h1,h2⟩
theorem sl_low2 {w:World} {base b:Nat} {a:Option Addr} {n c:Nat} {f:Nat→Int} (h:SL w base a n c f) (hb:b≤base):SL w b a n c f:=by
 rcases h with h | ⟨g,e,h⟩
 ·exact .inl h
 ·exact .inr ⟨g,e,h.mono hb⟩
theorem BoxAt.put {w:World} {B:Nat} {O:Array Value} (h:BoxAt w B O) (k:Nat) (v:Value):BoxAt (w.setCell ⟨B,k,none⟩ v) B (O.setIfInBounds k v):=by
 unfold BoxAt at h ⊢
 simp[World.setCell,Array.getElem?_modify,h]
theorem KSL.put {w:World} {b X:Nat} {O:Array Value} {a:Option Addr} {n:Nat} {F:Nat→Chk} (h:KSL w b a n F) (hX:BoxAt w X O) (k:Nat) (v:Value):KSL (w.setCell ⟨X,k,none⟩ v) b a n F:=by
 rcases h with h | ⟨g,e,h⟩
 ·exact .inl h
 ·refine .inr ⟨g,e,h.keep (Below.heap_setCell _ _ _ _ fun q=>?_)⟩
  obtain⟨_,cur,hh,_⟩:=h
  have q':g=X:=q
  rw[q',hX] at hh
  cases hh
structure WK (w:World) (A:Array Value) (X:Nat) (O:Array Value) (a:Option Addr) (n:Nat) (F:Nat→Chk) (u:World):Prop where
 m:MoP w A u
 x:BoxAt u X O
 k:KSL u w.heap.size a n F
 lt:w.heap.size+1 < X
theorem WK.called {w u u':World} {A O:Array Value} {X n:Nat} {a:Option Addr} {F:Nat→Chk} (h:WK w A X O a n F u) (hb:Below u.heap.size u u'):WK w A X O a n F u':=⟨h.m.called hb,h.x.called hb,h.k.called hb,h.lt⟩
theorem WK.set {w u:World} {A O:Array Value} {X n:Nat} {a:Option Addr} {F:Nat→Chk} (h:WK w A X O a n F u) (k:Nat) (v:Value):WK w A X (O.setIfInBounds k v) a n F (u.setCell ⟨X,k,none⟩ v):=⟨h.m.other X k v h.lt,h.x.put k v,h.k.put h.x k v,h.lt⟩
theorem WK.put {w u:World} {A O:Array Value} {X n:Nat} {a:Option Addr} {F:Nat→Chk} (h:WK w A X O a n F u) (k:Nat) (v:Value):WK w A X O a n F (u.setCell ⟨w.heap.size+1,k,none⟩ v):=by
 obtain⟨Z,h2,_⟩:=h.m.2.1
 exact⟨h.m.put k v,by rw [BoxAt,Below.heap_setCell _ _ _ _ (by show X≠w.heap.size+1; have:=h.lt; omega)]; exact h.x,KSL.put (O:=Z) h.k h2 k v,h.lt⟩
def WithPost (w:World) (p:Pic) (col dep:Int) (sa:Option Addr) (sn sc:Nat) (ca:Option Addr) (cn cc:Nat) (e:Ending) (w':World):Prop:=∃ k kc,e=.returned (.agg #[.int .i64 p.hw,.int .i64 p.hh,.int .i64 dep,.int .i64 col,.bool p.lace,.slice none 0 0,.slice ca cn cc,.int .i64 p.hw,.int .i64 p.hh,.int .i64 col,.int .i64 dep,.slice sa sn sc,.slice k p.kn kc])∧KSL w' w.heap.size k p.kn p.K∧Below w.heap.size w w'
end
section
open Go.RowKit OutMath PutMath RastMath HeadMath ChunkMath CrcMath
def SafeR (x:ByteArray):Prop:=NameR x∧97≤byteAt x 3
def TouchyR (n:Nat) (K:Nat→Chk):Prop:=¬ ∀ i,i < n→SafeR (K i).1
def sbitN:ByteArray:=⟨#[115,66,73,84]⟩
def bkgdN:ByteArray:=⟨#[98,75,71,68]⟩
def histN:ByteArray:=⟨#[104,73,83,84]⟩
theorem sbit_not:¬ SafeR sbitN:=fun h=>absurd h.2 (by decide)
theorem bkgd_not:¬ SafeR bkgdN:=fun h=>absurd h.2 (by decide)
theorem hist_not:¬ SafeR histN:=fun h=>absurd h.2 (by decide)
theorem sbit_list:sbitN.toList=[115,66,73,84]:=by rw [ByteArray.toList_eq]; rfl
theorem bkgd_list:bkgdN.toList=[98,75,71,68]:=by rw [ByteArray.toList_eq]; rfl
theorem hist_list:histN.toList=[104,73,83,84]:=by rw [ByteArray.toList_eq]; rfl
def withP (p:Pic) (col dep:Int) (sn:Nat) (S:Nat→Int) (cn:Nat) (C:Nat→Int):Pic:=⟨p.hw,p.hh,dep,col,p.lace,0,fun _=>(0,0,0),cn,C,p.hw,p.hh,col,dep,sn,S,p.kn,p.K⟩
def HalfR (p:Pic) (b:Int):Prop:=(∀ i,i < p.sn→p.S i % b=0)∧∀ i,i < p.cn→p.C i % b=0
def halfP (p:Pic) (d b:Int):Pic:=withP p p.hc d p.sn (fun j=>p.S j / b) p.cn (fun j=>p.C j / b)
def MayR (p:Pic):Prop:=PngR p∧¬ TouchyR p.kn p.K
theorem fit_65535 {f:Nat→Int} {n d:Nat} (h:Fit12 f n d) (hd:d≤16):∀ i,i < n→0≤f i∧f i≤65535:=fun i hi=>by
 have q:=h i hi
 have q2:p2 d≤p2 16:=by unfold p2; exact_mod_cast Nat.pow_le_pow_right (by omega) hd
 have q3:p2 16=65536:=by decide
 omega
theorem depth_16 {c d:Int} (h:DepthR c d):d.toNat≤16∧1≤d∧d≤16:=by
 unfold DepthR Five at h
 omega
theorem png_fits {p:Pic} (h:PngR p):p.sn≤2304∧(∀ i,i < p.sn→0≤p.S i∧p.S i≤65535)∧p.cn≤256∧(∀ i,i < p.cn→0≤p.C i∧p.C i≤65535)∧p.kn≤32:=by
 obtain⟨⟨⟨_,_,hD⟩,⟨⟨a1,a2⟩,⟨b1,b2⟩,_,hn,hS⟩,e1,e2,e3,e4⟩,hT,hC,_,hK⟩:=h
 refine⟨?_,fit_65535 hS (by rw [e4]; exact (depth_16 hD).1),?_,?_,hK.1⟩
 ·have h1:0≤p.rw * p.rh:=Int.mul_nonneg (by omega) (by omega)
  have h2:p.rw * p.rh≤24 * 24:=Int.mul_le_mul a2 b2 (by omega) (by omega)
  have h3:=chan_range p.rc
  have h4:p.rw * p.rh * chan p.rc≤24 * 24 * 4:=Int.mul_le_mul h2 h3.2 h3.1 (by omega)
  omega
 ·rcases hC with h | ⟨_,⟨_,h,_⟩ | ⟨_,h,_⟩ | ⟨h3,h,_⟩⟩
  ·omega
  ·omega
  ·omega
  ·unfold FitsR at hT
   rw[if_pos h3] at hT
   have:=hT.1.1.2
   omega
 ·rcases hC with h | ⟨_,⟨_,_,h⟩ | ⟨_,_,h⟩ | ⟨_,_,h⟩⟩
  ·intro i hi; omega
  ·exact fit_65535 h (depth_16 hD).1
  ·exact fit_65535 h (depth_16 hD).1
  ·exact fit_65535 h (by omega)
end
section
open Go.RowKit Go.Joins HeadMath ChunkMath
def noPng:Value:=.agg #[.int .i64 0,.int .i64 0,.int .i64 0,.int .i64 0,.bool false,.slice none 0 0,.slice none 0 0,.int .i64 0,.int .i64 0,.int .i64 0,.int .i64 0,.slice none 0 0,.slice none 0 0]
def noPic:Pic:=⟨0,0,0,0,false,0,fun _=>(0,0,0),0,fun _=>0,0,0,0,0,0,fun _=>0,0,fun _=>(ByteArray.empty,ByteArray.empty)⟩
def noPicA:PicA:=⟨none,0,none,0,none,0,none,0⟩
def LessPost (c:Prop) (r:Pic) (w:World) (e:Ending) (w':World):Prop:=(¬ c∧e=.returned (.tuple #[noPng,.bool false])∧Below w.heap.size w w')∨(c∧∃ q,e=.returned (.tuple #[pngV r q,.bool true])∧PngSL w' w.heap.size r q∧Below w.heap.size w w')
theorem less_congr {c c':Prop} {r r':Pic} (hc:c↔c') (hr:c→r=r') {w:World} {e:Ending} {w':World} (h:LessPost c r w e w'):LessPost c' r' w e w':=by
 rcases h with ⟨h,k⟩ | ⟨h,q,k⟩
 ·exact .inl ⟨fun x=>h (hc.mpr x),k⟩
 ·exact .inr ⟨hc.mp h,q,by rw [← hr h]; exact k⟩
theorem sl_apart {w1 w2:World} {b n n' c c':Nat} {a a':Option Addr} {f f':Nat→Int} (h:SL w1 b a n c f) (h':SL w2 w1.heap.size a' n' c' f'):n'=0∨n=0∨a'≠a:=by
 rcases h' with h' | ⟨g',e',h'⟩
 ·exact .inl h'
 rcases h with h | ⟨g,e,h⟩
 ·exact .inr (.inl h)
 refine .inr (.inr fun q=>?_)
 rw[e,e'] at q
 cases q
 have:=h.lt
 have:=h'.base_le
 omega
theorem SL.put {w:World} {b X n c:Nat} {O:Array Value} {a:Option Addr} {f:Nat→Int} (h:SL w b a n c f) (hX:BoxAt w X O) (k:Nat) (v:Value):SL (w.setCell ⟨X,k,none⟩ v) b a n c f:=by
 rcases h with h | ⟨g,e,h⟩
 ·exact .inl h
 ·refine .inr ⟨g,e,h.keep (Below.heap_setCell _ _ _ _ fun q=>?_)⟩
  obtain⟨cap,cur,fz,_,hb,hh,_⟩:=id h
  have q':g=X:=q
  rw[q',hX] at hh
  cases hh
theorem RgbSL.put {w:World} {b X n:Nat} {O:Array Value} {a:Option Addr} {f:Nat→Rgb3} (h:RgbSL w b a n f) (hX:BoxAt w X O) (k:Nat) (v:Value):RgbSL (w.setCell ⟨X,k,none⟩ v) b a n f:=by
 rcases h with h | ⟨g,e,h⟩
 ·exact .inl h
 ·refine .inr ⟨g,e,h.keep (Below.heap_setCell _ _ _ _ fun q=>?_)⟩
  obtain⟨hb,cur,hh,_⟩:=id h
  have q':g=X:=q
  rw[q',hX] at hh
  cases hh
theorem PngSL.put {w:World} {b X:Nat} {O:Array Value} {p:Pic} {q:PicA} (h:PngSL w b p q) (hX:BoxAt w X O) (k:Nat) (v:Value):PngSL (w.setCell ⟨X,k,none⟩ v) b p q:=⟨h.t.put hX k v,h.c.put hX k v,h.s.put hX k v,h.k.put hX k v,h.ne,h.capped⟩
theorem RgbSL.low {w:World} {base b n:Nat} {a:Option Addr} {F:Nat→Rgb3} (h:RgbSL w base a n F) (hb:b≤base):RgbSL w b a n F:=by
 rcases h with h | ⟨g,e,h1,h2⟩
 ·exact .inl h
 ·exact .inr ⟨g,e,Nat.le_trans hb h1,h2⟩
theorem PngSL.low {w:World} {base b:Nat} {p:Pic} {q:PicA} (h:PngSL w base p q) (hb:b≤base):PngSL w b p q:=⟨h.t.low hb,sl_low2 h.c hb,sl_low2 h.s hb,ksl_low2 h.k hb,h.ne,h.capped⟩
structure WP (w:World) (A:Array Value) (r:Pic) (q:PicA) (u:World):Prop where
 m:MoP w A u
 l:PngSL u w.heap.size r q
theorem WP.put {w u:World} {A:Array Value} {r:Pic} {q:PicA} (h:WP w A r q u) (k:Nat) (v:Value):WP w A r q (u.setCell ⟨w.heap.size+1,k,none⟩ v):=by
 obtain⟨Z,h2,_⟩:=h.m.2.1
 exact⟨h.m.put k v,PngSL.put (O:=Z) h.l h2 k v⟩
theorem WP.called {w u u':World} {A:Array Value} {r:Pic} {q:PicA} (h:WP w A r q u) (hb:Below u.heap.size u u'):WP w A r q u':=⟨h.m.called hb,h.l.called hb⟩
theorem WP.stored {w u:World} {A:Array Value} {r:Pic} {q:PicA} (h:WP w A r q u) (v0 v1 v2 v3 v4 v5 v6 v7 v8 v9 v10 v11 v12:Value):PngSL (((((((((((((u.setCell ⟨w.heap.size+1,0,none⟩ v0).setCell ⟨w.heap.size+1,1,none⟩ v1).setCell ⟨w.heap.size+1,2,none⟩ v2).setCell ⟨w.heap.size+1,3,none⟩ v3).setCell ⟨w.heap.size+1,4,none⟩ v4).setCell ⟨w.heap.size+1,5,none⟩ v5).setCell ⟨w.heap.size+1,6,none⟩ v6).setCell ⟨w.heap.size+1,7,none⟩ v7).setCell ⟨w.heap.size+1,8,none⟩ v8).setCell ⟨w.heap.size+1,9,none⟩ v9).setCell ⟨w.heap.size+1,10,none⟩ v10).setCell ⟨w.heap.size+1,11,none⟩ v11).setCell ⟨w.heap.size+1,12,none⟩ v12) w.heap.size r q∧Below w.heap.size w (((((((((((((u.setCell ⟨w.heap.size+1,0,none⟩ v0).setCell ⟨w.heap.size+1,1,none⟩ v1).setCell ⟨w.heap.size+1,2,none⟩ v2).setCell ⟨w.heap.size+1,3,none⟩ v3).setCell ⟨w.heap.size+1,4,none⟩ v4).setCell ⟨w.heap.size+1,5,none⟩ v5).setCell ⟨w.heap.size+1,6,none⟩ v6).setCell ⟨w.heap.size+1,7,none⟩ v7).setCell ⟨w.heap.size+1,8,none⟩ v8).setCell ⟨w.heap.size+1,9,none⟩ v9).setCell ⟨w.heap.size+1,10,none⟩ v10).setCell ⟨w.heap.size+1,11,none⟩ v11).setCell ⟨w.heap.size+1,12,none⟩ v12):=by
 have k:=((((((((((((h.put 0 v0).put 1 v1).put 2 v2).put 3 v3).put 4 v4).put 5 v5).put 6 v6).put 7 v7).put 8 v8).put 9 v9).put 10 v10).put 11 v11).put 12 v12
 exact⟨k.l,k.m.2.2⟩
theorem MoP.stored {w u:World} {A:Array Value} (h:MoP w A u) (v0 v1 v2 v3 v4 v5 v6 v7 v8 v9 v10 v11 v12:Value):Below w.heap.size w (((((((((((((u.setCell ⟨w.heap.size+1,0,none⟩ v0).setCell ⟨w.heap.size+1,1,none⟩ v1).setCell ⟨w.heap.size+1,2,none⟩ v2).setCell ⟨w.heap.size+1,3,none⟩ v3).setCell ⟨w.heap.size+1,4,none⟩ v4).setCell ⟨w.heap.size+1,5,none⟩ v5).setCell ⟨w.heap.size+1,6,none⟩ v6).setCell ⟨w.heap.size+1,7,none⟩ v7).setCell ⟨w.heap.size+1,8,none⟩ v8).setCell ⟨w.heap.size+1,9,none⟩ v9).setCell ⟨w.heap.size+1,10,none⟩ v10).setCell ⟨w.heap.size+1,11,none⟩ v11).setCell ⟨w.heap.size+1,12,none⟩ v12):=(((((((((((((h.put 0 v0).put 1 v1).put 2 v2).put 3 v3).put 4 v4).put 5 v5).put 6 v6).put 7 v7).put 8 v8).put 9 v9).put 10 v10).put 11 v11).put 12 v12).2.2
end
section
open Go.RowKit Go.Joins HeadMath ChunkMath
theorem half_sz {p:Pic} (hZ:PngSz p) (d b:Int):PngSz (halfP p d b):=⟨Nat.zero_le _,hZ.c,hZ.s,hZ.k,hZ.m⟩
end
section
open Go.RowKit
theorem in_yes (x a b:Int) (w:World) (h1:a≤x) (h2:x≤b):
  Calls Tryz.prog 115 #[.int .i64 x,.int .i64 a,.int .i64 b] w fun e w'=>e=.returned (.bool true)∧w'=w:=by
 go_enter Tryz.func115,Tryz.ntmps115
 go_wp2
 go_ret
 exact⟨rfl,rfl⟩
theorem in_no (x a b:Int) (w:World) (h:¬ (a≤x∧x≤b)):
  Calls Tryz.prog 115 #[.int .i64 x,.int .i64 a,.int .i64 b] w fun e w'=>e=.returned (.bool false)∧w'=w:=by
 by_cases h1:a≤x
 ·have h2:¬ x≤b:=fun k=>h ⟨h1,k⟩
  clear h
  go_enter Tryz.func115,Tryz.ntmps115
  go_wp2
  go_ret
  exact⟨rfl,rfl⟩
 ·clear h
  go_enter Tryz.func115,Tryz.ntmps115
  go_wp2
  go_ret
  exact⟨rfl,rfl⟩
end
section
open Go.RowKit Go.Joins RastMath
theorem beq_no {a b:Int} (h:¬ a=b):(a == b)=false:=by simpa using h
theorem specChannels (c:Int) (w:World):Calls Tryz.prog 28 #[.int .i64 c] w fun e w'=>e=.returned (.int .i64 (chan c))∧w'=w:=by
 unfold chan
 by_cases h0:c=0
 ·subst h0
  go_enter Tryz.func28,Tryz.ntmps28
  go_wp2_with fail
  go_ret
  exact⟨rfl,rfl⟩
 by_cases h3:c=3
 ·subst h3
  go_enter Tryz.func28,Tryz.ntmps28
  go_wp2_with fail
  go_ret
  exact⟨rfl,rfl⟩
 by_cases h2:c=2
 ·subst h2
  go_enter Tryz.func28,Tryz.ntmps28
  go_wp2_with fail
  go_ret
  exact⟨rfl,rfl⟩
 by_cases h4:c=4
 ·subst h4
  go_enter Tryz.func28,Tryz.ntmps28
  go_wp2_with fail
  go_ret
  exact⟨rfl,rfl⟩
 by_cases h6:c=6
 ·subst h6
  go_enter Tryz.func28,Tryz.ntmps28
  go_wp2_with fail
  go_ret
  exact⟨rfl,rfl⟩
 rw[if_neg (by omega),if_neg h2,if_neg h4,if_neg h6]
 have b0:=beq_no h0
 have b3:=beq_no h3
 have b2:=beq_no h2
 have b4:=beq_no h4
 have b6:=beq_no h6
 go_enter Tryz.func28,Tryz.ntmps28
 go_wp2_with fail
 go_ret
 exact⟨rfl,rfl⟩
set_option maxHeartbeats 1600000 in
theorem specDepthOk (c d:Int) (w:World):Calls Tryz.prog 114 #[.int .i64 c,.int .i64 d] w fun e w'=>e=.returned (.bool (decide (DepthR c d)))∧w'=w:=by
 have hd:d=1∨d=2∨d=4∨d=8∨d=16∨¬ Five d:=by
  unfold Five
  omega
 have hc:c=0∨c=3∨c=2∨c=4∨c=6∨(¬ c=0∧¬ c=3∧¬ c=2∧¬ c=4∧¬ c=6):=by omega
 rcases hc with rfl | rfl | rfl | rfl | rfl | ⟨h0,h3,h2,h4,h6⟩
 all_goals
  rcases hd with rfl | rfl | rfl | rfl | rfl | hd
 all_goals
  first
   | (rw [decide_eq_true (show DepthR _ _ by unfold DepthR Five; omega)])
   | (rw [decide_eq_false (show ¬ DepthR _ _ by unfold DepthR Five; omega)])
   | (rw [decide_eq_false (show ¬ DepthR _ _ from fun h=>hd (depth_five h))])
  try (have e0:=beq_no h0; have e3:=beq_no h3; have e2:=beq_no h2; have e4:=beq_no h4; have e6:=beq_no h6; clear h0 h3 h2 h4 h6)
  try (unfold Five at hd; have g1:=beq_no (a:=d) (b:=1) (by omega); have g2:=beq_no (a:=d) (b:=2) (by omega); have g4:=beq_no (a:=d) (b:=4) (by omega); have g8:=beq_no (a:=d) (b:=8) (by omega); have g16:=beq_no (a:=d) (b:=16) (by omega); clear hd)
  go_enter Tryz.func114,Tryz.ntmps114
  go_wp2_with fail
  go_ret
  exact⟨rfl,rfl⟩
theorem specSide (n:Int) (w:World):Calls Tryz.prog 113 #[.int .i64 n] w fun e w'=>e=.returned (.bool (decide (SideR n)))∧w'=w:=by
 by_cases h:SideR n
 ·rw[decide_eq_true h]
  go_enter Tryz.func113,Tryz.ntmps113
  go_wp2_with fail
  refine (in_yes n 1 24 _ h.1 h.2).mono ?_
  rintro e w1 ⟨rfl,rfl⟩
  go_wp2_with fail
  go_ret
  exact⟨rfl,rfl⟩
 ·rw[decide_eq_false h]
  go_enter Tryz.func113,Tryz.ntmps113
  go_wp2_with fail
  refine (in_no n 1 24 _ h).mono ?_
  rintro e w1 ⟨rfl,rfl⟩
  go_wp2_with fail
  go_ret
  exact⟨rfl,rfl⟩
end
section
open Go.RowKit Go.Joins RastMath BigTextMath HeadMath
theorem head_cells {w:World} {b:Nat} {x y d c:Int} {l:Bool} (h:w.heap[b]?=some (.cells #[.int .i64 x,.int .i64 y,.int .i64 d,.int .i64 c,.bool l] 32 (0,0))):w.cell? ⟨b,0,none⟩=some (.int .i64 x)∧w.cell? ⟨b,1,none⟩=some (.int .i64 y)∧w.cell? ⟨b,2,none⟩=some (.int .i64 d)∧w.cell? ⟨b,3,none⟩=some (.int .i64 c)∧w.cell? ⟨b,4,none⟩=some (.bool l):=
 ⟨(cell_of_block h 0).trans rfl,(cell_of_block h 1).trans rfl,(cell_of_block h 2).trans rfl,(cell_of_block h 3).trans rfl,(cell_of_block h 4).trans rfl⟩
end
section
open Go.RowKit Go.Joins RastMath BigMath BigTextMath HeadMath
set_option maxRecDepth 100000 in
set_option maxHeartbeats 1600000 in
theorem specHeadOk (x y d c:Int) (l:Bool) (w:World):
  Calls Tryz.prog 91 #[.agg #[.int .i64 x,.int .i64 y,.int .i64 d,.int .i64 c,.bool l]] w fun e w'=>e=.returned (.bool (decide (HeadR x y d c)))∧Below w.heap.size w w':=by
 have hs0:=specSide x
 have hs1:=specSide y
 have hd:=specDepthOk c d
 have HB:=hid_of (bstart w (.cells #[.int .i64 x,.int .i64 y,.int .i64 d,.int .i64 c,.bool l] 32))
 by_cases h0:SideR x
 ·rw[decide_eq_true h0] at hs0
  by_cases h1:SideR y
  ·rw[decide_eq_true h1] at hs1
   rw[show decide (HeadR x y d c)=decide (DepthR c d) from decide_eq_decide.mpr ⟨fun h=>h.2.2,fun h=>⟨h0,h1,h⟩⟩]
   generalize decide (DepthR c d)=b at hd ⊢
   clear h0 h1
   go_enter Tryz.func91,Tryz.ntmps91
   go_wp2_with fail
   refine (hs0 _).mono ?_
   rintro e w1 ⟨rfl,rfl⟩
   go_wp2_with fail
   refine (hs1 _).mono ?_
   rintro e w1 ⟨rfl,rfl⟩
   go_wp2_with fail
   refine (hd _).mono ?_
   rintro e w1 ⟨rfl,rfl⟩
   go_wp2_with fail
   go_ret
   exact⟨rfl,HB.out⟩
  ·rw[decide_eq_false h1] at hs1
   rw[decide_eq_false (fun h:HeadR x y d c=>h1 h.2.1)]
   clear h0 h1
   go_enter Tryz.func91,Tryz.ntmps91
   go_wp2_with fail
   refine (hs0 _).mono ?_
   rintro e w1 ⟨rfl,rfl⟩
   go_wp2_with fail
   refine (hs1 _).mono ?_
   rintro e w1 ⟨rfl,rfl⟩
   go_wp2_with fail
   go_ret
   exact⟨rfl,HB.out⟩
 ·rw[decide_eq_false h0] at hs0
  rw[decide_eq_false (fun h:HeadR x y d c=>h0 h.1)]
  clear h0
  go_enter Tryz.func91,Tryz.ntmps91
  go_wp2_with fail
  refine (hs0 _).mono ?_
  rintro e w1 ⟨rfl,rfl⟩
  go_wp2_with fail
  go_ret
  exact⟨rfl,HB.out⟩
end
section
open Go.RowKit
theorem ret_i {k:IntKind} {a b:Int} (h:a=b):Ending.returned (.int k a)=.returned (.int k b):=by rw [h]
end
section
open Go.RowKit Go.Joins OutMath
set_option maxHeartbeats 400000 in
theorem pow_any (n:Nat) (w:World) (h:n≤61):
  Calls Tryz.prog 29 #[.int .i64 n] w fun e w'=>e=.returned (.int .i64 (p2 n))∧w'=w:=by
 go_enter Tryz.func29,Tryz.ntmps29
 go_wp2
 go_loop [3,4] (fun x i=>∃ j:Nat,j≤n∧i=.int .i64 j∧x=.int .i64 (p2 j)) (fun _ i=>n - (intOf i).toNat)
 case atStart=>exact⟨0,Nat.zero_le _,rfl,by rw [p2_zero]⟩
 case round=>
  obtain⟨j,hj,rfl,rfl⟩:=hrel
  have hp:=p2_pos j
  have hq:=p2_61 (n:=j) (by omega)
  by_cases hlt:j < n
  ·go_wp2
   go_round
   case rel=>exact⟨j+1,by omega,by go_num,by rw [p2_succ]⟩
   case measure=>simp [intOf]; omega
  ·go_wp2
   go_ret
   exact⟨ret_i (by rw [show j=n by omega]),rfl⟩
end
section
open Go.RowKit Go.Joins OutMath RastMath
set_option maxRecDepth 100000 in
set_option maxHeartbeats 3200000 in
theorem specRaster (x0 x1 x2 x3:Int) (a:Option Addr) (n cap:Nat) (f:Nat→Int) (w:World) (hC:Came w a n f) (hn:n≤1048576):
  Calls Tryz.prog 92 #[.agg #[.int .i64 x0,.int .i64 x1,.int .i64 x2,.int .i64 x3,.slice a n cap]] w (RasPost x0 x1 x2 x3 n f w):=by
 have hs0:=specSide x0
 have hs1:=specSide x1
 have hd:=specDepthOk x2 x3
 have hc:=specChannels x2
 have HC:=hid_of hC
 have HB:=hid_of (bstart w (.cells #[.int .i64 x0,.int .i64 x1,.int .i64 x2,.int .i64 x3,.slice a n cap] 34))
 clear hC
 by_cases h0:SideR x0
 ·rw[decide_eq_true h0] at hs0
  by_cases h1:SideR x1
  ·rw[decide_eq_true h1] at hs1
   by_cases h2:DepthR x2 x3
   ·rw[decide_eq_true h2] at hd
    have hcr:=chan_range x2
    obtain⟨N,hN⟩:∃ N,N=chan x2:=⟨_,rfl⟩
    rw[← hN] at hc hcr
    have m1:0≤x0 * x1∧x0 * x1≤576:=⟨Int.mul_nonneg (by have:=h0.1; omega) (by have:=h1.1; omega),by
     have:=Int.mul_le_mul h0.2 h1.2 (by have:=h1.1; omega) (by omega)
     omega⟩
    have m2:0≤x0 * x1 * N∧x0 * x1 * N≤2304:=⟨Int.mul_nonneg m1.1 hcr.1,by
     have:=Int.mul_le_mul m1.2 hcr.2 hcr.1 (by omega)
     omega⟩
    obtain⟨p,hp⟩:∃ p,p=x0 * x1:=⟨_,rfl⟩
    have rp:=hp.symm
    rw[← hp] at m1 m2
    obtain⟨q,hq⟩:∃ q,q=p * N:=⟨_,rfl⟩
    have rq:=hq.symm
    rw[← hq] at m2
    have w1:IntKind.i64.wrap p=p:=by rw [IntKind.wrap_i64]; omega
    have w2:IntKind.i64.wrap q=q:=by rw [IntKind.wrap_i64]; omega
    by_cases h3:(n:Int)=q
    ·have e1:((n:Int) == q)=true:=by simpa using h3
     have e2:((n:Int) != q)=false:=by simpa using h3
     have HR:Hid (RasR x0 x1 x2 x3 n f↔Fit12 f n x3.toNat):=⟨fun h=>h.2.2.2.2,fun h=>⟨h0,h1,h2,by rw [← hN,rp,rq]; exact h3,h⟩⟩
     have h5:=five_range (depth_five h2)
     obtain⟨d,rfl⟩:=Int.eq_ofNat_of_zero_le (show 0≤x3 by omega)
     rw[Int.toNat_natCast] at HR
     have hpd:=fun W=>pow_any d W (by omega)
     have hpp:=p2_pos d
     have hp16:p2 d≤65536:=by
      have:=p2_le (show d≤16 by omega)
      rw[show p2 16=65536 by decide +kernel] at this
      exact this
     obtain⟨P,hP⟩:∃ P,P=p2 d:=⟨_,rfl⟩
     rw[← hP] at hpd hpp hp16
     have HP:=hid_of hP
     have wp:IntKind.i64.wrap (P - 1)=P - 1:=by rw [IntKind.wrap_i64]; omega
     have H3:=hid_of h3
     clear h0 h1 h2 hN hp hq h3 hP
     go_enter Tryz.func92,Tryz.ntmps92
     go_wp2_with fail
     go_quiet ((first | (go_at_call 113; first | exact Calls.quiet_of_same (hs0 _) | exact Calls.quiet_of_same (hs1 _)) | (go_at_call 114; exact Calls.quiet_of_same (hd _)) | (go_at_call 28; exact Calls.quiet_of_same (hc _))))
     go_wp2_with fail
     have HX:Hid (((w.alloc (.cells #[.int .i64 x0,.int .i64 x1,.int .i64 x2,.int .i64 (d:Int),.slice a n cap] 34)).drewN nq).heap[w.heap.size]?=some (.cells #[.int .i64 x0,.int .i64 x1,.int .i64 x2,.int .i64 (d:Int),.slice a n cap] 34 (0,0))):=heap_alloc_new w _
     have HW:Hid (Below w.heap.size w ((w.alloc (.cells #[.int .i64 x0,.int .i64 x1,.int .i64 x2,.int .i64 (d:Int),.slice a n cap] 34)).drewN nq)):=bdraws HB.out _
     generalize (w.alloc (.cells #[.int .i64 x0,.int .i64 x1,.int .i64 x2,.int .i64 (d:Int),.slice a n cap] 34)).drewN nq=W1 at HX HW ⊢
     clear HB hs0 hs1 hd hc e1 e2 rp rq w1 w2
     go_loopw [3] (fun i w'=>∃ j:Nat,j≤n∧i=.int .i64 j∧Hid (Fit12 f j d∧Below W1.heap.size W1 w')) (fun i _=>n - (intOf i).toNat)
     case atStart=>exact⟨0,Nat.zero_le _,rfl,fun i hi=>absurd hi (Nat.not_lt_zero i),Below.refl _ _⟩
     case round=>
      obtain⟨j,hj,rfl,hS⟩:=hrel
      have bx:=(hS.out.2.block _ (block_lt HX.out)).trans HX.out
      have k3:wr.cell? ⟨w.heap.size,3,none⟩=some (.int .i64 (d:Int)):=(cell_of_block bx 3).trans rfl
      have k4:wr.cell? ⟨w.heap.size,4,none⟩=some (.slice a n cap):=(cell_of_block bx 4).trans rfl
      have lx:=block_lt bx
      clear bx
      by_cases hlt:j < n
      ·have dl:decide ((j:Int) < (n:Int))=true:=decide_eq_true (by omega)
       rcases HC.out.called HW.out with q0 | ⟨g,off,rfl,hg,hcc⟩
       ·omega
       have c0:wr.cell? ⟨g,off+j,none⟩=some (.int .i64 (f j)):=(hS.out.2.cell (p:=⟨g,off+j,none⟩) hg).trans (hcc j hlt)
       have l0:g < wr.heap.size:=Nat.lt_of_lt_of_le hg hS.out.2.size
       clear hcc
       obtain⟨x,hx⟩:∃ x,x=f j:=⟨_,rfl⟩
       rw[← hx] at c0
       have HX2:=hid_of hx
       clear hx
       by_cases hin:0≤x∧x≤P - 1
       ·have hiy:=fun W=>in_yes x 0 (P - 1) W hin.1 hin.2
        have HN:Hid (Fit12 f (j+1) d):=hS.out.1.next (by rw [← HX2.out]; exact hin.1) (by rw [← HX2.out,← HP.out]; omega)
        have HBw:=hid_of hS.out.2
        clear hin hS
        go_wp2_with fail
        go_quiet ((first | (go_at_call 29; exact Calls.quiet_of_same (hpd _)) | (go_at_call 115; exact Calls.quiet_of_same (hiy _))))
        go_wp2_with fail
        go_roundw
        case rel=>exact⟨j+1,by omega,by go_num,HN.out,bdraws HBw.out _⟩
        case measure=>simp [intOf]; omega
       ·have hiy:=fun W=>in_no x 0 (P - 1) W hin
        have HN:Hid (¬ RasR x0 x1 x2 (d:Int) n f):=fun h=>hin (by have:=HR.out.mp h j hlt; rw [← HX2.out,← HP.out] at this; omega)
        have HBw:=hid_of (bnext HW.out hS.out.2)
        clear hin hS
        go_wp2_with fail
        go_quiet ((first | (go_at_call 29; exact Calls.quiet_of_same (hpd _)) | (go_at_call 115; exact Calls.quiet_of_same (hiy _))))
        go_wp2_with fail
        go_ret
        exact ras_no HN.out (bdraws HBw.out _)
      ·obtain rfl:j=n:=by omega
       have dl:decide ((j:Int) < (j:Int))=false:=decide_eq_false (by omega)
       have HY:Hid (RasR x0 x1 x2 (d:Int) j f):=HR.out.mpr hS.out.1
       have HBw:=hid_of (bnext HW.out hS.out.2)
       clear hS
       go_wp2_with fail
       go_ret
       exact ras_yes HY.out HBw.out
    ·have e1:((n:Int) == q)=false:=by simpa using h3
     have e2:((n:Int) != q)=true:=by simpa using h3
     have HR:Hid (¬ RasR x0 x1 x2 x3 n f):=fun h=>h3 (by have:=h.2.2.2.1; rw [← hN,rp,rq] at this; exact this)
     clear h0 h1 h2 hN hp hq h3
     go_enter Tryz.func92,Tryz.ntmps92
     go_wp2_with fail
     go_quiet ((first | (go_at_call 113; first | exact Calls.quiet_of_same (hs0 _) | exact Calls.quiet_of_same (hs1 _)) | (go_at_call 114; exact Calls.quiet_of_same (hd _)) | (go_at_call 28; exact Calls.quiet_of_same (hc _))))
     go_wp2_with fail
     go_ret
     exact ras_no HR.out (bdraws HB.out _)
   ·rw[decide_eq_false h2] at hd
    have HR:Hid (¬ RasR x0 x1 x2 x3 n f):=fun h=>h2 h.2.2.1
    clear h0 h1 h2
    go_enter Tryz.func92,Tryz.ntmps92
    go_wp2_with fail
    go_quiet ((first | (go_at_call 113; first | exact Calls.quiet_of_same (hs0 _) | exact Calls.quiet_of_same (hs1 _)) | (go_at_call 114; exact Calls.quiet_of_same (hd _)) | (go_at_call 28; exact Calls.quiet_of_same (hc _))))
    go_wp2_with fail
    go_ret
    exact ras_no HR.out (bdraws HB.out _)
  ·rw[decide_eq_false h1] at hs1
   have HR:Hid (¬ RasR x0 x1 x2 x3 n f):=fun h=>h1 h.2.1
   clear h0 h1
   go_enter Tryz.func92,Tryz.ntmps92
   go_wp2_with fail
   go_quiet ((first | (go_at_call 113; first | exact Calls.quiet_of_same (hs0 _) | exact Calls.quiet_of_same (hs1 _)) | (go_at_call 114; exact Calls.quiet_of_same (hd _)) | (go_at_call 28; exact Calls.quiet_of_same (hc _))))
   go_wp2_with fail
   go_ret
   exact ras_no HR.out (bdraws HB.out _)
 ·rw[decide_eq_false h0] at hs0
  have HR:Hid (¬ RasR x0 x1 x2 x3 n f):=fun h=>h0 h.1
  clear h0
  go_enter Tryz.func92,Tryz.ntmps92
  go_wp2_with fail
  go_quiet ((first | (go_at_call 113; first | exact Calls.quiet_of_same (hs0 _) | exact Calls.quiet_of_same (hs1 _)) | (go_at_call 114; exact Calls.quiet_of_same (hd _)) | (go_at_call 28; exact Calls.quiet_of_same (hc _))))
  go_wp2_with fail
  go_ret
  exact ras_no HR.out (bdraws HB.out _)
end
section
open Go.RowKit Go.Joins
def Flag (p:Prop) (w:World) (e:Ending) (w':World):Prop:=∃ b,e=.returned (.bool b)∧(b=true↔p)∧Below w.heap.size w w'
theorem Flag.congr {p q:Prop} {w:World} {e:Ending} {w':World} (h:Flag p w e w') (hpq:p↔q):Flag q w e w':=by
 obtain⟨b,h1,h2,h3⟩:=h
 exact⟨b,h1,h2.trans hpq,h3⟩
end
section
namespace FiltMath
open TakeMath
def siz (x:Int):Int:=if x < 0 then -x else x
def paeth (a b c:Int):Int:=
 if siz (a+b - c - a)≤siz (a+b - c - b)∧siz (a+b - c - a)≤siz (a+b - c - c) then a else if siz (a+b - c - b)≤siz (a+b - c - c) then b else c
def told (k a b c:Int):Int:=if k=1 then a else if k=2 then b else if k=3 then (a+b) / 2 else if k=4 then paeth a b c else 0
def least (f:Nat→Int):Nat→Nat
 | 0=>0
 | n+1=>if f (n+1) < f (least f n) then n+1 else least f n
end FiltMath
end
section
open Go.RowKit Go.Joins OutMath PutMath TakeMath RastMath
def SamPost (f:Nat→Int) (n d:Nat) (w:World) (e:Ending) (w':World):Prop:=∃ b,e=.returned (.bool b)∧(b=true↔Fit12 f n d)∧w'=w
set_option maxHeartbeats 800000 in
theorem samples_any (a:Option Addr) (n cap d:Nat) (f:Nat→Int) (w:World) (hC:Came w a n f) (hn:n≤1048576) (hd:d≤16):
  Calls Tryz.prog 123 #[.slice a n cap,.int .i64 (d:Int)] w (SamPost f n d w):=by
 have HC:=hid_of hC
 obtain⟨M,hM⟩:∃ M:Int,M=2 ^ d:=⟨_,rfl⟩
 have hMb:1≤M∧M≤65536:=by
  have h1:=p2_pos d
  have h2:=p2_le hd
  rw[show p2 16=65536 by decide +kernel] at h2
  rw[hM]
  exact⟨h1,h2⟩
 have HM:Hid (M=p2 d):=hM
 have r2:=hM.symm
 have w6:IntKind.i64.wrap M=M:=by rw [IntKind.wrap_i64]; omega
 have m64:min d 64=d:=by omega
 clear hC hM
 go_enter Tryz.func123,Tryz.ntmps123
 go_wp2_with fail
 go_loop [9] (fun i=>∃ j:Nat,j≤n∧i=.int .i64 j∧Hid (Fit12 f j d)) (fun i=>n - (intOf i).toNat)
 case atStart=>exact⟨0,Nat.zero_le _,rfl,fun i hi=>absurd hi (Nat.not_lt_zero i)⟩
 case round=>
  obtain⟨j,hj,rfl,hok⟩:=hrel
  by_cases hlt:j < n
  ·rcases HC.out with h0 | ⟨g,off,rfl,hg,hc⟩
   ·omega
   ·have c0:=hc j hlt
    clear hc
    by_cases hin:0≤f j∧f j < M
    ·have HK:Hid (Fit12 f (j+1) d):=hok.out.next hin.1 (by rw [← HM.out]; exact hin.2)
     have d0:decide (f j < 0)=false:=decide_eq_false (by omega)
     have d1:(f j / M != 0)=false:=by
      rw[Int.ediv_eq_zero_of_lt hin.1 hin.2]
      rfl
     clear hin
     go_wp2_with fail
     go_round
     case rel=>exact⟨j+1,by omega,by go_num,HK⟩
     case measure=>simp [intOf]; omega
    ·have HN:Hid (¬ Fit12 f n d):=fun h=>hin (by have:=h j hlt; rw [← HM.out] at this; exact this)
     by_cases h0:f j < 0
     ·have d0:decide (f j < 0)=true:=decide_eq_true h0
      clear hin
      go_wp2_with fail
      go_ret
      exact⟨false,rfl,by simp [HN.out],rfl⟩
     ·have d0:decide (f j < 0)=false:=decide_eq_false h0
      have d1:(f j / M != 0)=true:=by
       have:1≤f j / M:=(Int.le_ediv_iff_mul_le (by omega)).mpr (by omega)
       simp only [bne_iff_ne,ne_eq]
       omega
      clear hin
      go_wp2_with fail
      go_ret
      exact⟨false,rfl,by simp [HN.out],rfl⟩
  ·obtain rfl:j=n:=by omega
   go_wp2_with fail
   go_ret
   exact⟨true,rfl,by simp [hok.out],rfl⟩
end
section
open Go.RowKit Go.Joins
theorem info_made:(Tryz.prog.info? 3).map (fun i=>(i.zero,i.size,i.bytes))=some (some (.int .i64 0),1,8):=by kernel_rfl
end
section
open Go.RowKit Go.Joins OutMath ChunkMath CrcMath
theorem specLetter_yes (b:Int) (w:World) (h:65≤b∧b≤90∨97≤b∧b≤122):
  Calls Tryz.prog 133 #[.int .u8 b] w fun e w'=>e=.returned (.bool true)∧w'=w:=by
 rcases h with ⟨h1,h2⟩ | ⟨h1,h2⟩
 ·go_enter Tryz.func133,Tryz.ntmps133
  go_wp2_with fail
  go_ret
  exact⟨rfl,rfl⟩
 ·have h3:¬ b≤90:=by omega
  have h4:65≤b:=by omega
  go_enter Tryz.func133,Tryz.ntmps133
  go_wp2_with fail
  go_ret
  exact⟨rfl,rfl⟩
theorem specLetter_no (b:Int) (w:World) (h:¬ (65≤b∧b≤90∨97≤b∧b≤122)):
  Calls Tryz.prog 133 #[.int .u8 b] w fun e w'=>e=.returned (.bool false)∧w'=w:=by
 by_cases h1:65≤b
 ·have h2:¬ b≤90:=by omega
  by_cases h3:97≤b
  ·have h4:¬ b≤122:=by omega
   clear h
   go_enter Tryz.func133,Tryz.ntmps133
   go_wp2_with fail
   go_ret
   exact⟨rfl,rfl⟩
  ·clear h
   go_enter Tryz.func133,Tryz.ntmps133
   go_wp2_with fail
   go_ret
   exact⟨rfl,rfl⟩
 ·have h3:¬ 97≤b:=by omega
  clear h
  go_enter Tryz.func133,Tryz.ntmps133
  go_wp2_with fail
  go_ret
  exact⟨rfl,rfl⟩
theorem let_in (n:ByteArray) (i:Nat) (hi:i < n.size):LetterR (byteAt n i)↔(65≤((n[i]'hi).toNat:Int)∧((n[i]'hi).toNat:Int)≤90∨97≤((n[i]'hi).toNat:Int)∧((n[i]'hi).toNat:Int)≤122):=by
 rw[← byteAt_get n i hi]
 omega
set_option maxHeartbeats 800000 in
theorem specName_yes (n:ByteArray) (w:World) (h:NameR n):
  Calls Tryz.prog 119 #[.string n] w fun e w'=>e=.returned (.bool true)∧w'=w:=by
 obtain⟨hs,h0,h1,h2,h3,h4⟩:=h
 have l0:0 < n.size:=by omega
 have l1:1 < n.size:=by omega
 have l2:2 < n.size:=by omega
 have l3:3 < n.size:=by omega
 have e0:((n.size:Int) == 4)=true:=beq_iff_eq.2 (by omega)
 have H0:=hid_of ((let_in n 0 l0).1 h0)
 have H1:=hid_of ((let_in n 1 l1).1 h1)
 have H2:=hid_of ((let_in n 2 l2).1 h2)
 have H3:=hid_of ((let_in n 3 l3).1 h3)
 have h5:((n[2]'l2).toNat:Int)≤90:=by rw [byteAt_get n 2 l2]; omega
 clear h0 h1 h2 h3 h4
 go_enter Tryz.func119,Tryz.ntmps119
 go_wp2_with fail
 refine (specLetter_yes _ _ H0.out).mono ?_
 rintro e w1 ⟨rfl,rfl⟩
 go_wp2_with fail
 refine (specLetter_yes _ _ H1.out).mono ?_
 rintro e w1 ⟨rfl,rfl⟩
 go_wp2_with fail
 refine (specLetter_yes _ _ H2.out).mono ?_
 rintro e w1 ⟨rfl,rfl⟩
 go_wp2_with fail
 refine (specLetter_yes _ _ H3.out).mono ?_
 rintro e w1 ⟨rfl,rfl⟩
 go_wp2_with fail
 go_ret
 exact⟨rfl,rfl⟩
set_option maxHeartbeats 1600000 in
theorem specName_no (n:ByteArray) (w:World) (h:¬ NameR n):
  Calls Tryz.prog 119 #[.string n] w fun e w'=>e=.returned (.bool false)∧w'=w:=by
 by_cases hs:n.size=4
 ·have e0:((n.size:Int) == 4)=true:=beq_iff_eq.2 (by omega)
  have l0:0 < n.size:=by omega
  have l1:1 < n.size:=by omega
  have l2:2 < n.size:=by omega
  have l3:3 < n.size:=by omega
  by_cases h0:LetterR (byteAt n 0)
  ·have H0:=hid_of ((let_in n 0 l0).1 h0)
   by_cases h1:LetterR (byteAt n 1)
   ·have H1:=hid_of ((let_in n 1 l1).1 h1)
    by_cases h2:LetterR (byteAt n 2)
    ·have H2:=hid_of ((let_in n 2 l2).1 h2)
     by_cases h3:LetterR (byteAt n 3)
     ·have H3:=hid_of ((let_in n 3 l3).1 h3)
      have h5:decide (((n[2]'l2).toNat:Int)≤90)=false:=decide_eq_false fun q=>h ⟨hs,h0,h1,h2,h3,by rw [byteAt_get n 2 l2] at q; omega⟩
      clear h h0 h1 h2 h3
      go_enter Tryz.func119,Tryz.ntmps119
      go_wp2_with fail
      refine (specLetter_yes _ _ H0.out).mono ?_
      rintro e w1 ⟨rfl,rfl⟩
      go_wp2_with fail
      refine (specLetter_yes _ _ H1.out).mono ?_
      rintro e w1 ⟨rfl,rfl⟩
      go_wp2_with fail
      refine (specLetter_yes _ _ H2.out).mono ?_
      rintro e w1 ⟨rfl,rfl⟩
      go_wp2_with fail
      refine (specLetter_yes _ _ H3.out).mono ?_
      rintro e w1 ⟨rfl,rfl⟩
      go_wp2_with fail
      go_ret
      exact⟨rfl,rfl⟩
     ·have H3:=hid_of (fun q=>h3 ((let_in n 3 l3).2 q))
      clear h h3 h0 h1 h2
      go_enter Tryz.func119,Tryz.ntmps119
      go_wp2_with fail
      refine (specLetter_yes _ _ H0.out).mono ?_
      rintro e w1 ⟨rfl,rfl⟩
      go_wp2_with fail
      refine (specLetter_yes _ _ H1.out).mono ?_
      rintro e w1 ⟨rfl,rfl⟩
      go_wp2_with fail
      refine (specLetter_yes _ _ H2.out).mono ?_
      rintro e w1 ⟨rfl,rfl⟩
      go_wp2_with fail
      refine (specLetter_no _ _ H3.out).mono ?_
      rintro e w1 ⟨rfl,rfl⟩
      go_wp2_with fail
      go_ret
      exact⟨rfl,rfl⟩
    ·have H2:=hid_of (fun q=>h2 ((let_in n 2 l2).2 q))
     clear h h2 h0 h1
     go_enter Tryz.func119,Tryz.ntmps119
     go_wp2_with fail
     refine (specLetter_yes _ _ H0.out).mono ?_
     rintro e w1 ⟨rfl,rfl⟩
     go_wp2_with fail
     refine (specLetter_yes _ _ H1.out).mono ?_
     rintro e w1 ⟨rfl,rfl⟩
     go_wp2_with fail
     refine (specLetter_no _ _ H2.out).mono ?_
     rintro e w1 ⟨rfl,rfl⟩
     go_wp2_with fail
     go_ret
     exact⟨rfl,rfl⟩
   ·have H1:=hid_of (fun q=>h1 ((let_in n 1 l1).2 q))
    clear h h1 h0
    go_enter Tryz.func119,Tryz.ntmps119
    go_wp2_with fail
    refine (specLetter_yes _ _ H0.out).mono ?_
    rintro e w1 ⟨rfl,rfl⟩
    go_wp2_with fail
    refine (specLetter_no _ _ H1.out).mono ?_
    rintro e w1 ⟨rfl,rfl⟩
    go_wp2_with fail
    go_ret
    exact⟨rfl,rfl⟩
  ·have H0:=hid_of (fun q=>h0 ((let_in n 0 l0).2 q))
   clear h h0 
   go_enter Tryz.func119,Tryz.ntmps119
   go_wp2_with fail
   refine (specLetter_no _ _ H0.out).mono ?_
   rintro e w1 ⟨rfl,rfl⟩
   go_wp2_with fail
   go_ret
   exact⟨rfl,rfl⟩
 ·have e0:((n.size:Int) == 4)=false:=beq_eq_false_iff_ne.2 (by omega)
  clear h
  go_enter Tryz.func119,Tryz.ntmps119
  go_wp2_with fail
  go_ret
  exact⟨rfl,rfl⟩
end
section
open Go.RowKit Go.Joins OutMath ChunkMath CrcMath
theorem specNeedless (n:ByteArray) (w:World):
  Calls Tryz.prog 117 #[.string n] w fun e w'=>e=.returned (.bool (decide (NameR n∧97≤byteAt n 0)))∧w'=w:=by
 by_cases h:NameR n
 ·have l0:0 < n.size:=by have:=h.1; omega
  by_cases h1:97≤byteAt n 0
  ·rw[decide_eq_true ⟨h,h1⟩]
   have HN:=hid_of h
   have h2:decide ((97:Int)≤((n[0]'l0).toNat:Int))=true:=decide_eq_true <| by rw [byteAt_get n 0 l0]; omega
   clear h h1
   go_enter Tryz.func117,Tryz.ntmps117
   go_wp2_with fail
   refine (specName_yes _ _ HN.out).mono ?_
   rintro e w1 ⟨rfl,rfl⟩
   go_wp2_with fail
   go_ret
   exact⟨rfl,rfl⟩
  ·rw[decide_eq_false (fun q=>h1 q.2)]
   have HN:=hid_of h
   have h2:decide ((97:Int)≤((n[0]'l0).toNat:Int))=false:=decide_eq_false <| by rw [byteAt_get n 0 l0]; omega
   clear h h1
   go_enter Tryz.func117,Tryz.ntmps117
   go_wp2_with fail
   refine (specName_yes _ _ HN.out).mono ?_
   rintro e w1 ⟨rfl,rfl⟩
   go_wp2_with fail
   go_ret
   exact⟨rfl,rfl⟩
 ·rw[decide_eq_false (fun q=>h q.1)]
  have HN:=hid_of h
  clear h
  go_enter Tryz.func117,Tryz.ntmps117
  go_wp2_with fail
  refine (specName_no _ _ HN.out).mono ?_
  rintro e w1 ⟨rfl,rfl⟩
  go_wp2_with fail
  go_ret
  exact⟨rfl,rfl⟩
theorem specSafeToCopy (n:ByteArray) (w:World):
  Calls Tryz.prog 96 #[.string n] w fun e w'=>e=.returned (.bool (decide (NameR n∧97≤byteAt n 3)))∧w'=w:=by
 by_cases h:NameR n
 ·have l0:3 < n.size:=by have:=h.1; omega
  by_cases h1:97≤byteAt n 3
  ·rw[decide_eq_true ⟨h,h1⟩]
   have HN:=hid_of h
   have h2:decide ((97:Int)≤((n[3]'l0).toNat:Int))=true:=decide_eq_true <| by rw [byteAt_get n 3 l0]; omega
   clear h h1
   go_enter Tryz.func96,Tryz.ntmps96
   go_wp2_with fail
   refine (specName_yes _ _ HN.out).mono ?_
   rintro e w1 ⟨rfl,rfl⟩
   go_wp2_with fail
   go_ret
   exact⟨rfl,rfl⟩
  ·rw[decide_eq_false (fun q=>h1 q.2)]
   have HN:=hid_of h
   have h2:decide ((97:Int)≤((n[3]'l0).toNat:Int))=false:=decide_eq_false <| by rw [byteAt_get n 3 l0]; omega
   clear h h1
   go_enter Tryz.func96,Tryz.ntmps96
   go_wp2_with fail
   refine (specName_yes _ _ HN.out).mono ?_
   rintro e w1 ⟨rfl,rfl⟩
   go_wp2_with fail
   go_ret
   exact⟨rfl,rfl⟩
 ·rw[decide_eq_false (fun q=>h q.1)]
  have HN:=hid_of h
  clear h
  go_enter Tryz.func96,Tryz.ntmps96
  go_wp2_with fail
  refine (specName_no _ _ HN.out).mono ?_
  rintro e w1 ⟨rfl,rfl⟩
  go_wp2_with fail
  go_ret
  exact⟨rfl,rfl⟩
end
section
open Go.RowKit Go.Joins ChunkMath CrcMath
open scoped Classical
theorem text_is {a b:ByteArray} (h:a=b):(a.toList == b.toList)=true:=by rw [h]; exact beq_self_eq_true _
theorem text_not {a b:ByteArray} (h:¬ a=b):(a.toList == b.toList)=false:=by
 rw[ByteArray.toList_eq,ByteArray.toList_eq,beq_eq_false_iff_ne]
 exact fun e=>h (ChunkMath.bx_ext e)
def KeptPost (n:Nat) (K:Nat→Chk) (w:World) (e:Ending) (w':World):Prop:=∃ b,e=.returned (.bool b)∧(b=true↔KeptR n K)∧w'=w
theorem kept_no {n j:Nat} {K:Nat→Chk} {w:World} (hj:j < n) (h:¬ KeepR (K j)):KeptPost n K w (.returned (.bool false)) w:=⟨false,rfl,⟨fun e=>(by cases e),fun k=>absurd (k.2 j hj) h⟩,rfl⟩
def KeptI (w wr:World) (K:Nat→Chk) (j:Nat):Prop:=(∀ i,i < j→KeepR (K i))∧wr=w
theorem clearN_list:clearN.toList=[116,82,78,83]:=by rw [ByteArray.toList_eq]; rfl
set_option maxRecDepth 100000 in
set_option maxHeartbeats 1600000 in
theorem specKept (a:Option Addr) (n c:Nat) (K:Nat→Chk) (w:World) (hC:KCame w a n K) (hn:n≤1048576) (hm:∀ i,i < n→(K i).2.size≤1048576):
  Calls Tryz.prog 94 #[.slice a n c] w (KeptPost n K w):=by
 by_cases h1:n≤32
 case neg=>
  have HN:Hid (KeptPost n K w (.returned (.bool false)) w):=⟨false,rfl,⟨fun e=>(by cases e),fun k=>absurd k.1 h1⟩,rfl⟩
  have d1:decide ((32:Int) < (n:Int))=true:=decide_eq_true (by omega)
  clear h1 hm hC
  go_enter Tryz.func94,Tryz.ntmps94
  go_wp2_with fail
  go_ret
  exact HN.out
 have d1:decide ((32:Int) < (n:Int))=false:=decide_eq_false (by omega)
 have HC:=hid_of hC
 have HM:=hid_of hm
 have H1:=hid_of h1
 clear hC hm h1
 go_enter Tryz.func94,Tryz.ntmps94
 go_wp2_with fail
 go_loopw [3] (fun i w'=>∃ j:Nat,j≤n∧i=.int .i64 j∧Hid (KeptI w w' K j)) (fun i _=>n - (intOf i).toNat)
 case atStart=>exact⟨0,Nat.zero_le _,rfl,fun i hi=>absurd hi (Nat.not_lt_zero i),rfl⟩
 case round=>
  obtain⟨j,hj,rfl,hI⟩:=hrel
  have ew:wr=w:=hI.out.2
  subst ew
  by_cases hlt:j < n
  ·rcases HC.out with h0 | ⟨g,off,rfl,hg,hc⟩
   ·omega
   ·have c0:=(hc j hlt).1
    have c1:=(hc j hlt).2
    have hs:=specNeedless (K j).1 wr
    have hz:=HM.out j hlt
    have HNo:Hid (¬ KeepR (K j)→KeptPost n K wr (.returned (.bool false)) wr):=fun h=>kept_no hlt h
    have HYes:Hid (KeepR (K j)→KeptI wr wr K (j+1)):=fun h=>⟨fun i hi=>by
     by_cases e:i=j
     ·rw[e]; exact h
     ·exact hI.out.1 i (by omega),rfl⟩
    obtain⟨x,hx⟩:∃ x,x=(K j).1:=⟨_,rfl⟩
    obtain⟨y,hy⟩:∃ y,y=(K j).2:=⟨_,rfl⟩
    have HK:Hid (KeepR (K j)↔(NameR x∧97≤byteAt x 0)∧¬ x=clearN∧y.size≤2600):=by
     rw[hx,hy]; exact Iff.rfl
    rw[← hx] at c0 hs
    rw[← hy] at c1 hz
    clear hx hy hc hI
    by_cases p1:NameR x∧97≤byteAt x 0
    ·rw[decide_eq_true p1] at hs
     by_cases p2:x=clearN
     ·have e2:(x.toList == [116,82,78,83])=true:=by rw [← clearN_list]; exact text_is p2
      have HN:=hid_of (HNo.out fun h=>(HK.out.mp h).2.1 p2)
      clear p1 p2 HNo HYes HK
      go_wp2_with fail
      refine hs.mono ?_
      rintro e w1 ⟨rfl,rfl⟩
      go_wp2_with fail
      go_ret
      exact HN.out
     ·have e2:(x.toList == [116,82,78,83])=false:=by rw [← clearN_list]; exact text_not p2
      by_cases p3:y.size≤2600
      ·have d3:decide ((2600:Int) < (y.size:Int))=false:=decide_eq_false (by omega)
       have HY:=hid_of (HYes.out (HK.out.mpr ⟨p1,p2,p3⟩))
       clear p1 p2 p3 HNo HYes HK
       go_wp2_with fail
       refine hs.mono ?_
       rintro e w1 ⟨rfl,rfl⟩
       go_wp2_with fail
       go_roundw
       case rel=>exact⟨j+1,by omega,by go_num,HY⟩
       case measure=>simp [intOf]; omega
      ·have d3:decide ((2600:Int) < (y.size:Int))=true:=decide_eq_true (by omega)
       have HN:=hid_of (HNo.out fun h=>p3 (HK.out.mp h).2.2)
       clear p1 p2 p3 HNo HYes HK
       go_wp2_with fail
       refine hs.mono ?_
       rintro e w1 ⟨rfl,rfl⟩
       go_wp2_with fail
       go_ret
       exact HN.out
    ·rw[decide_eq_false p1] at hs
     have HN:=hid_of (HNo.out fun h=>p1 (HK.out.mp h).1)
     clear p1 HNo HYes HK
     go_wp2_with fail
     refine hs.mono ?_
     rintro e w1 ⟨rfl,rfl⟩
     go_wp2_with fail
     go_ret
     exact HN.out
  ·obtain rfl:j=n:=by omega
   go_wp2_with fail
   go_ret
   exact⟨true,rfl,⟨fun _=>⟨H1.out,hI.out.1⟩,fun _=>rfl⟩,rfl⟩
end
section
open Go.RowKit Go.Joins HeadMath
section
variable {w0 w w':World} {base g n cap:Nat} {L:List Rgb3}
end
theorem rgbNews_tk (w:World) (x y z:Int) (n:Nat) (h:w.heap.size=n):∀ q u,(rgbTcells [(x,y,z)])[q]?=some u→(w.alloc (.cells #[.int .i64 x,.int .i64 y,.int .i64 z] 74)).cell? ((⟨n,0,none⟩:Addr).add q)=some u:=by
 subst h
 exact World.news_of_block (cs:=#[.int .i64 x,.int .i64 y,.int .i64 z]) (t:=74) (fr:=(0,0)) (heap_alloc_new w _)
theorem rgbs_append_at {w:World} {S:Nat} {v:Value} {xs ys:List Rgb3} {ops:Array Oper} {rest:List Oper} {o:Oper} {a:Act} {Q:Exit→Act→World→Prop} (hgd:o.guard=none) (s x:Operand)
  (ho:o.op=.call { callee:=.builtin .append,args:=#[s,x],argTypes:=#[33,33] }) (hs:a.eval s=v) (h:w.ownsRow S 74 3 v xs.length (rgbTcells xs)) (ad:Addr) (m c:Nat) (hx:a.eval x=.slice (some ad) m c) (hm:ys.length=m)
  (hc:∀ j u,(rgbTcells ys)[j]?=some u→w.cell? (ad.add j)=some u)
  (h63:xs.length+ys.length≤100000) (hS:S≤w.heap.size)
  (hK:∀ v' w',w'.ownsRow S 74 3 v' (xs ++ ys).length (rgbTcells (xs ++ ys))→w.grownBy w' v.ownBlock→(v'.ownBlock=v.ownBlock∨v'.ownBlock=some w.heap.size)→wpList Tryz.prog ops Q rest (a.put o.dst v') w'):wpList Tryz.prog ops Q (o :: rest) a w:=by
 obtain⟨i0,hi0,hz0,hz1,hz2⟩:=info_parts info_rgb
 refine wpList_append_own_at w hgd s x _ ho S 74 i0 _ 3 24 Tryz.underlying33 hi0 hz0 hz1 hz2 rfl (by omega) v _ _ hs h ad m c (rgbTcells ys) hx (by rw [rgbTcells_length,hm]) hc (rgbTcells_one ys) (by unfold maxLen; omega) (by omega) hS ?_
 intro v' w' hown hg _ hat
 refine hK v' w' ?_ hg hat
 rw[List.length_append,rgbTcells_app,hm]
 exact hown
end
section
open Go.RowKit Go.Joins OutMath HeadMath
def TabPost (F:Nat→Rgb3) (n:Nat) (w:World) (e:Ending) (w':World):Prop:=((TableR F n∧e=.returned (.tuple #[.string (tableT F n),.bool true]))∨(¬ TableR F n∧e=.returned (.tuple #[.string ⟨#[]⟩,.bool false])))∧Below w.heap.size w w'
theorem rgb_info8:(Tryz.prog.info? 5).map (fun i=>(i.zero,i.size,i.bytes))=some (some (.int .u8 0),1,1):=by kernel_rfl
def t8 (xs:List Int):List Value:=xs.map (Value.int .u8)
theorem t8_app (xs ys:List Int):t8 (xs ++ ys)=t8 xs ++ t8 ys:=by simp [t8]
theorem t8_one (xs:List Int):∀ u∈t8 xs,u.oneCell'=true:=by
 intro u hu
 obtain⟨x,_,rfl⟩:=List.mem_map.mp hu
 rfl
def TbB (w w':World) (v:Value) (F:Nat→Rgb3) (j:Nat):Prop:=w'.ownsRow w.heap.size 5 1 v (3 * j) (t8 (colN F j))∧(∀ i,i < j→RgbR (F i))∧Below w.heap.size w w'
theorem TbB.called {w w' w2:World} {v:Value} {F:Nat→Rgb3} {j:Nat} (h:TbB w w' v F j) (hb:Below w'.heap.size w' w2):TbB w w2 v F j:=by
 obtain⟨⟨h1,h2⟩,h3,h4⟩:=h
 refine⟨⟨h1,?_⟩,h3,bnext h4 hb⟩
 rcases h2 with q | ⟨g,cap,cur,q,h5,hg,h6⟩
 ·exact .inl q
 ·exact .inr ⟨g,cap,cur,q,h5,(hb.block g (block_lt hg)).trans hg,h6⟩
theorem TbB.start0 (w:World) (F:Nat→Rgb3):TbB w w (.slice none 0 0) F 0:=
 ⟨⟨rfl,.inl ⟨rfl,rfl⟩⟩,fun i hi=>absurd hi (Nat.not_lt_zero i),Below.refl _ _⟩
theorem TbB.empty (w:World) (F:Nat→Rgb3):TbB w (w.alloc (.cells #[] 5)) (.slice (some ⟨w.heap.size,0,none⟩) 0 0) F 0:=
 ⟨⟨rfl,.inr ⟨w.heap.size,0,#[],rfl,Nat.le_refl _,heap_alloc_new w _,Nat.le_refl _,Nat.zero_le _,rfl,rfl⟩⟩,fun i hi=>absurd hi (Nat.not_lt_zero i),bstart _ _⟩
theorem TbB.next {w w1 w2:World} {v v':Value} {F:Nat→Rgb3} {j:Nat} (h:TbB w w1 v F j) (hc:RgbR (F j)) (hown:w2.ownsRow w.heap.size 5 1 v' (3 * j+3) (t8 (colN F j) ++ t8 [(F j).1,(F j).2.1,(F j).2.2])) (hg:w1.grownBy w2 v.ownBlock):TbB w w2 v' F (j+1):=by
 refine⟨?_,fun i hi=>?_,?_⟩
 ·rw[colN_next,t8_app,show 3 * (j+1)=3 * j+3 by omega]
  exact hown
 ·by_cases e:i=j
  ·rw[e]; exact hc
  ·exact h.2.1 i (by omega)
 ·refine h.2.2.grown hg h.2.2.size fun q hq=>?_
  rcases h.1.2 with ⟨rfl,_⟩ | ⟨g,cap,cur,rfl,h5,_⟩
  ·cases hq
  ·cases hq
   exact h5
theorem TbB.text {w w':World} {v:Value} {F:Nat→Rgb3} {n:Nat} (h:TbB w w' v F n) (hn:1≤n):(convert 120 9 v).run Tryz.prog w'=.ok (.string (tableT F n)) w':=by
 have hl:=colN_length F n
 rcases h.1.2 with ⟨_,q⟩ | ⟨g,cap,cur,rfl,h5,hg,h6⟩
 ·omega
 ·refine run_convert_bytes_arg w' 120 5 Tryz.underlying120 Tryz.underlying5 g 0 _ cap (colN F n) hl (fun i hi=>?_) 9 Tryz.underlying9
  have hlt:i < (colN F n).length:=by omega
  rw[Nat.zero_add,h.1.cellAt i (by rw [Nat.mul_one]; exact hi)]
  simp[t8,hlt]
theorem bytes_three {w:World} {S:Nat} {v:Value} {k:Nat} {xs:List Int} {ops:Array Oper} {rest:List Oper} {o:Oper} {a:Act} {Q:Exit→Act→World→Prop} (hgd:o.guard=none) (s x:Operand)
  (ho:o.op=.call { callee:=.builtin .append,args:=#[s,x],argTypes:=#[120,120] }) (hs:a.eval s=v) (h:w.ownsRow S 5 1 v k (t8 xs)) (b c:Nat) (y0 y1 y2:Int) (hx:a.eval x=.slice (some ⟨b,0,none⟩) 3 c) (hb:w.heap[b]?=some (.cells #[.int .u8 y0,.int .u8 y1,.int .u8 y2] 5 (0,0)))
  (h63:k≤100000) (hS:S≤w.heap.size)
  (hK:∀ v' w',w'.ownsRow S 5 1 v' (k+3) (t8 xs ++ t8 [y0,y1,y2])→w.grownBy w' v.ownBlock→wpList Tryz.prog ops Q rest (a.put o.dst v') w'):wpList Tryz.prog ops Q (o :: rest) a w:=by
 obtain⟨i0,hi0,hz0,hz1,hz2⟩:=info_parts rgb_info8
 refine wpList_append_own_at w hgd s x _ ho S 5 i0 _ 1 1 Tryz.underlying120 hi0 hz0 hz1 hz2 rfl (by omega) v k (t8 xs) hs h ⟨b,0,none⟩ 3 c (t8 [y0,y1,y2]) hx rfl (fun j u hu=>?_) (t8_one _) (by unfold maxLen; omega) (by omega) hS ?_
 ·rw[Addr.add_lit,Nat.zero_add,cell_of_block hb]
  match j,hu with
  | 0,hu=>exact hu
  | 1,hu=>exact hu
  | 2,hu=>exact hu
  | q+3,hu=>simp [t8] at hu
 ·intro v' w' hown hg _ _
  exact hK v' w' hown hg
def col3 (c:Rgb3) (i:Nat):Int:=if i=0 then c.1 else if i=1 then c.2.1 else c.2.2
theorem col3_fit (c:Rgb3):Fit12 (col3 c) 3 8↔RgbR c:=by
 have p8:p2 8=256:=by decide +kernel
 unfold Fit12
 rw[p8]
 constructor
 ·intro h
  have h0:0≤c.1∧c.1 < 256:=h 0 (by omega)
  have h1:0≤c.2.1∧c.2.1 < 256:=h 1 (by omega)
  have h2:0≤c.2.2∧c.2.2 < 256:=h 2 (by omega)
  show (0≤c.1∧c.1≤255)∧(0≤c.2.1∧c.2.1≤255)∧(0≤c.2.2∧c.2.2≤255)
  omega
 ·rintro⟨h0,h1,h2⟩ i hi
  match i,hi with
  | 0,_=>show 0≤c.1∧c.1 < 256; omega
  | 1,_=>show 0≤c.2.1∧c.2.1 < 256; omega
  | 2,_=>show 0≤c.2.2∧c.2.2 < 256; omega
  | q+3,hq=>omega
end
section
open Go.RowKit Go.Joins ChunkMath CrcMath
def TouchyPost (n:Nat) (K:Nat→Chk) (w:World) (e:Ending) (w':World):Prop:=∃ b,e=.returned (.bool b)∧(b=true↔TouchyR n K)∧Below w.heap.size w w'
theorem touchy_yes {n j:Nat} {K:Nat→Chk} {w w':World} (hj:j < n) (h:¬ SafeR (K j).1) (hb:Below w.heap.size w w'):TouchyPost n K w (.returned (.bool true)) w':=⟨true,rfl,⟨fun _ k=>h (k j hj),fun _=>rfl⟩,hb⟩
theorem touchy_no {n:Nat} {K:Nat→Chk} {w w':World} (h:∀ i,i < n→SafeR (K i).1) (hb:Below w.heap.size w w'):TouchyPost n K w (.returned (.bool false)) w':=⟨false,rfl,⟨fun e=>(by cases e),fun k=>absurd h k⟩,hb⟩
set_option maxRecDepth 100000 in
set_option maxHeartbeats 1600000 in
theorem specTouchy (p:Pic) (q:PicA) (w:World) (hC:KCame w q.ka p.kn p.K) (hn:p.kn≤1048576):
  Calls Tryz.prog 70 #[pngV p q] w (TouchyPost p.kn p.K w):=by
 obtain⟨hw,hh,hd,hc',lace,tn,T,cn,C,rw',rh,rc,rd,sn,S,n,K⟩:=p
 obtain⟨ta,tc,ca,cc,sa,sc,a,kc⟩:=q
 have HC:=hid_of hC
 have hn':n≤1048576:=hn
 clear hC hn
 have H0:Hid (Below w.heap.size w (w.alloc (.cells #[.int .i64 hw,.int .i64 hh,.int .i64 hd,.int .i64 hc',.bool lace,.slice ta tn tc,.slice ca cn cc,.int .i64 rw',.int .i64 rh,.int .i64 rc,.int .i64 rd,.slice sa sn sc,.slice a n kc] 37))∧(w.alloc (.cells #[.int .i64 hw,.int .i64 hh,.int .i64 hd,.int .i64 hc',.bool lace,.slice ta tn tc,.slice ca cn cc,.int .i64 rw',.int .i64 rh,.int .i64 rc,.int .i64 rd,.slice sa sn sc,.slice a n kc] 37)).heap[w.heap.size]?=some (.cells #[.int .i64 hw,.int .i64 hh,.int .i64 hd,.int .i64 hc',.bool lace,.slice ta tn tc,.slice ca cn cc,.int .i64 rw',.int .i64 rh,.int .i64 rc,.int .i64 rd,.slice sa sn sc,.slice a n kc] 37 (0,0))):=⟨bstart _ _,heap_alloc_new _ _⟩
 show Calls Tryz.prog 70 #[.agg #[.int .i64 hw,.int .i64 hh,.int .i64 hd,.int .i64 hc',.bool lace,.slice ta tn tc,.slice ca cn cc,.int .i64 rw',.int .i64 rh,.int .i64 rc,.int .i64 rd,.slice sa sn sc,.slice a n kc]] w (TouchyPost n K w)
 go_enter Tryz.func70,Tryz.ntmps70
 go_wp2_with fail
 go_loopw [3] (fun i w'=>∃ j:Nat,j≤n∧i=.int .i64 j∧Hid ((∀ i,i < j→SafeR (K i).1)∧Below w.heap.size w w'∧w'.heap[w.heap.size]?=some (.cells #[.int .i64 hw,.int .i64 hh,.int .i64 hd,.int .i64 hc',.bool lace,.slice ta tn tc,.slice ca cn cc,.int .i64 rw',.int .i64 rh,.int .i64 rc,.int .i64 rd,.slice sa sn sc,.slice a n kc] 37 (0,0)))) (fun i _=>n - (intOf i).toNat)
 case atStart=>exact⟨0,Nat.zero_le _,rfl,fun i hi=>absurd hi (Nat.not_lt_zero i),H0.out⟩
 case round=>
  obtain⟨j,hj,rfl,hI⟩:=hrel
  clear H0
  have a12:=(cell_of_block hI.out.2.2 12).trans rfl
  have l0:=block_lt hI.out.2.2
  by_cases hlt:j < n
  ·rcases HC.out with h0 | ⟨g,off,rfl,hg,hc⟩
   ·omega
   ·have c0:wr.cell? ⟨g,off+j * 2,none⟩=some (.string (K j).1):=(hI.out.2.1.cell (p:=⟨g,off+j * 2,none⟩) hg).trans (hc j hlt).1
    have c1:wr.cell? ⟨g,off+j * 2+1,none⟩=some (.string (K j).2):=(hI.out.2.1.cell (p:=⟨g,off+j * 2+1,none⟩) hg).trans (hc j hlt).2
    have hl2:g < wr.heap.size:=Nat.lt_of_lt_of_le hg hI.out.2.1.size
    have hs:=fun V=>specSafeToCopy (K j).1 V
    have HNo:Hid (¬ SafeR (K j).1→∀ W,Below w.heap.size w W→TouchyPost n K w (.returned (.bool true)) W):=fun h W hb=>touchy_yes hlt h hb
    have HYes:Hid (SafeR (K j).1→∀ i,i < j+1→SafeR (K i).1):=fun h i hi=>by
     by_cases e:i=j
     ·rw[e]; exact h
     ·exact hI.out.1 i (by omega)
    obtain⟨x,hx⟩:∃ x,x=(K j).1:=⟨_,rfl⟩
    rw[← hx] at c0 hs HNo HYes
    clear hx hc
    by_cases p1:x=sbitN
    ·have e1:(x.toList == [115,66,73,84])=true:=by rw [← sbit_list]; exact text_is p1
     have HN:=hid_of (HNo.out (p1 ▸ sbit_not))
     clear p1 HNo HYes hs
     go_wp2_with fail
     go_ret
     exact HN.out _ hI.out.2.1
    have e1:(x.toList == [115,66,73,84])=false:=by rw [← sbit_list]; exact text_not p1
    by_cases p2:x=bkgdN
    ·have e2:(x.toList == [98,75,71,68])=true:=by rw [← bkgd_list]; exact text_is p2
     have HN:=hid_of (HNo.out (p2 ▸ bkgd_not))
     clear p1 p2 HNo HYes hs
     go_wp2_with fail
     go_ret
     exact HN.out _ hI.out.2.1
    have e2:(x.toList == [98,75,71,68])=false:=by rw [← bkgd_list]; exact text_not p2
    by_cases p3:x=histN
    ·have e3:(x.toList == [104,73,83,84])=true:=by rw [← hist_list]; exact text_is p3
     have HN:=hid_of (HNo.out (p3 ▸ hist_not))
     clear p1 p2 p3 HNo HYes hs
     go_wp2_with fail
     go_ret
     exact HN.out _ hI.out.2.1
    have e3:(x.toList == [104,73,83,84])=false:=by rw [← hist_list]; exact text_not p3
    clear p1 p2 p3
    by_cases p4:NameR x∧97≤byteAt x 3
    ·rw[decide_eq_true p4] at hs
     have HY:=hid_of (HYes.out p4)
     clear p4 HNo HYes
     go_wp2_with fail
     refine (hs _).mono ?_
     rintro e w1 ⟨rfl,rfl⟩
     go_wp2_with fail
     go_roundw
     case rel=>exact⟨j+1,by omega,by go_num,HY.out,hI.out.2⟩
     case measure=>simp [intOf]; omega
    ·rw[decide_eq_false p4] at hs
     have HN:=hid_of (HNo.out p4)
     clear p4 HNo HYes
     go_wp2_with fail
     refine (hs _).mono ?_
     rintro e w1 ⟨rfl,rfl⟩
     go_wp2_with fail
     go_ret
     exact HN.out _ hI.out.2.1
  ·obtain rfl:j=n:=by omega
   go_wp2_with fail
   go_ret
   exact touchy_no hI.out.1 hI.out.2.1
end
end Go.Proofs.YtkpbfmdnjnohlaaGreat
