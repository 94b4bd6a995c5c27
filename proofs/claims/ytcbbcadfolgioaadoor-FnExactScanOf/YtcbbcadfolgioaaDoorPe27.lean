/-
  Texts of the proof, put together.
-/
import Derived.Test.YtcbbcadfolgioaaDoorPe23
import Derived.Test.YtcbbcadfolgioaaDoorPe26
namespace Go.Proofs.YtcbbcadfolgioaaDoor
open Go.RowKit Go.Joins OutMath TakeMath RastMath FiltMath PassMath ScanMath
def PartsLie (w:World) (g G K:Nat) (R:Nat→Ras):Prop:=
 g < w.heap.size∧g≠G∧∃ (A:Nat→Option Addr) (C:Nat→Nat),∀ j,j < K→RasAt w g (j * 5) (R j) (A j) (C j)∧Came w (A j) (R j).n (R j).f∧(R j).n≤C j∧C j≤maxLen∧∀ q o,A j=some ⟨q,o,none⟩→(R j).n=0∨q≠G
theorem PartsLie.but {w w':World} {g G K:Nat} {R:Nat→Ras} (h:PartsLie w g G K R) (hb:But G w w'):PartsLie w' g G K R:=by
 obtain⟨h1,h2,A,C,h3⟩:=h
 refine⟨Nat.lt_of_lt_of_le h1 hb.size,h2,A,C,fun j hj=>?_⟩
 obtain⟨q1,q2,q3,q4,q5⟩:=h3 j hj
 exact⟨q1.keep (hb.block g h1 h2),hb.came q2 q5,q3,q4,q5⟩
theorem RasAt.of_block {w:World} {g:Nat} {r:Ras} {a:Option Addr} {cap:Nat} (h:w.heap[g]?=some (.cells #[.int .i64 r.x0,.int .i64 r.x1,.int .i64 r.x2,.int .i64 r.x3,.slice a r.n cap] 26 (0,0))):RasAt w g 0 r a cap:=
 ⟨(cell_of_block h 0).trans rfl,(cell_of_block h 1).trans rfl,(cell_of_block h 2).trans rfl,(cell_of_block h 3).trans rfl,(cell_of_block h 4).trans rfl⟩
theorem parts_of_one {w w':World} {g G:Nat} {R:Nat→Ras} {a:Option Addr} {cap:Nat} (hg:w.heap.size≤g) (hG:G < w.heap.size) (h:w'.heap[g]?=some (.cells #[.int .i64 (R 0).x0,.int .i64 (R 0).x1,.int .i64 (R 0).x2,.int .i64 (R 0).x3,.slice a (R 0).n cap] 26 (0,0))) (hC:Came w' a (R 0).n (R 0).f) (hcap:(R 0).n≤cap) (hcm:cap≤maxLen) (hne:∀ q o,a=some ⟨q,o,none⟩→(R 0).n=0∨q≠G):PartsLie w' g G 1 R:=by
 refine⟨block_lt h,by omega,fun _=>a,fun _=>cap,fun j hj=>?_⟩
 obtain rfl:j=0:=by omega
 exact⟨RasAt.of_block h,hC,hcap,hcm,hne⟩
theorem parts_of_rsl {w:World} {base G:Nat} {R:Nat→Ras} {a:Option Addr} (hG:G < base) (h:RSL w base a 7 R):∃ g,a=some ⟨g,0,none⟩∧PartsLie w g G 7 R:=by
 rcases h with h | ⟨g,rfl,A,Gs,C,h⟩
 ·omega
 ·have hg:=h.lt
  have hb:=h.1
  refine⟨g,rfl,hg,by omega,A,C,fun j hj=>⟨h.at_ j hj,(h.2.2.1 j hj).came,(h.2.2.1 j hj).1,(h.2.2.1 j hj).2.1,fun q o hq=>?_⟩⟩
  rcases Nat.eq_zero_or_pos (R j).n with e | e
  ·exact .inl e
  ·obtain⟨-,-,q2⟩:=h.2.2.1 j hj
   rcases q2 with q2 | ⟨ha,ho⟩
   ·exact .inl q2
   ·rw[ha] at hq
    cases hq
    have:=ho.base_le
    exact .inr (by omega)
def ScoI (wP w':World) (base G NT:Nat) (L:Nat→List Int) (OF:Nat→Nat) (p:Nat):Prop:=(∃ h,BFn w' base G NT NT h∧∀ i,i < OF p→h i=(partsL L p).getD i 0)∧But G wP w'
theorem scoI_next {wP wr w':World} {base G NT:Nat} {L:Nat→List Int} {OF:Nat→Nat} {p:Nat} {h:Nat→Int} (hl:(partsL L p).length=OF p) (hL:OF (p+1)=OF p+(L p).length) (hh:∀ i,i < OF p→h i=(partsL L p).getD i 0) (hB:But G wP wr) (hT:∃ h',BFn w' base G NT NT h'∧(∀ i,i < (L p).length→h' (OF p+i)=(L p).getD i 0)∧(∀ i,i < OF p→h' i=h i)) (hb:But G wr w'):ScoI wP w' base G NT L OF (p+1):=by
 obtain⟨h',hO,h1,h2⟩:=hT
 refine⟨⟨h',hO,fun i hi=>?_⟩,hB.trans hb⟩
 rw[partsL_succ,List.getD_eq_getElem?_getD]
 by_cases e:i < OF p
 ·rw[List.getElem?_append_left (by rw [hl]; exact e),← List.getD_eq_getElem?_getD,h2 i e,hh i e]
 ·rw[List.getElem?_append_right (by rw [hl]; omega),hl,← List.getD_eq_getElem?_getD,← h1 (i - OF p) (by omega),show OF p+(i - OF p)=i by omega]
set_option maxRecDepth 100000 in
set_option maxHeartbeats 6400000 in
theorem implScanOf_in (W H N D n cap:Nat) (c way:Int) (a:Option Addr) (f:Nat→Int) (lace:Bool) (w:World) (hW:1≤W∧W≤24) (hH:1≤H∧H≤24) (hd:DepthR c (D:Int)) (hN:chan c=(N:Int)) (hway:0≤way∧way≤5) (hn:n=W * H * N) (hC:Came w a n f) (hcap:n≤cap) (hcm:cap≤maxLen) (hF:Fit12 f n D) (hG:GridG w):
  Calls Tryd.prog 15 #[.agg #[.int .i64 (W:Int),.int .i64 (H:Int),.int .i64 c,.int .i64 (D:Int),.slice a n cap],.bool lace,.int .i64 way] w fun e w'=>e=.returned (.tuple #[.string (scanT lace way W H N D f),.bool true])∧Below w.heap.size w w':=by
 have hN4:N≤4:=by have:=(chan_range c).2; omega
 have hN1:1≤N:=by have:=chan_pos hd; omega
 have hD16:D≤16:=by have:=five_range (depth_five hd); omega
 have hnm:n≤2304:=by
  have h1:=Nat.mul_le_mul hW.2 hH.2
  have h2:=Nat.mul_le_mul h1 hN4
  rw[hn]
  exact Nat.le_trans h2 (by omega)
 have hok:RasR (W:Int) (H:Int) c (D:Int) n f:=⟨⟨by omega,by omega⟩,⟨by omega,by omega⟩,hd,by rw [hN,hn]; simp,by rw [Int.toNat_natCast]; exact hF⟩
 have HX:Hid ((w.alloc (.cells #[.int .i64 (W:Int),.int .i64 (H:Int),.int .i64 c,.int .i64 (D:Int),.slice a n cap] 26)).heap[w.heap.size]?=some (.cells #[.int .i64 (W:Int),.int .i64 (H:Int),.int .i64 c,.int .i64 (D:Int),.slice a n cap] 26 (0,0))):=heap_alloc_new w _
 have HB:=hid_of (bstart w (.cells #[.int .i64 (W:Int),.int .i64 (H:Int),.int .i64 c,.int .i64 (D:Int),.slice a n cap] 26))
 have hR:=implRaster (W:Int) (H:Int) c (D:Int) a n cap f _ (hC.called HB.out) (by omega) hcap hcm
 have HR:Hid (Calls Tryd.prog 35 #[.agg #[.int .i64 (W:Int),.int .i64 (H:Int),.int .i64 c,.int .i64 (D:Int),.slice a n cap]] (w.alloc (.cells #[.int .i64 (W:Int),.int .i64 (H:Int),.int .i64 c,.int .i64 (D:Int),.slice a n cap] 26)) fun e w'=>e=.returned (.bool true)∧Below (w.alloc (.cells #[.int .i64 (W:Int),.int .i64 (H:Int),.int .i64 c,.int .i64 (D:Int),.slice a n cap] 26)).heap.size (w.alloc (.cells #[.int .i64 (W:Int),.int .i64 (H:Int),.int .i64 c,.int .i64 (D:Int),.slice a n cap] 26)) w'):=by
  refine hR.mono ?_
  rintro e w' ⟨b,rfl,hb,hB⟩
  cases b with
  | true=>exact⟨rfl,hB⟩
  | false=>exact absurd (hb.mpr hok) (by simp)
 have d1:decide (way < 0)=false:=decide_eq_false (by omega)
 have d2:decide (5 < way)=false:=decide_eq_false (by omega)
 have HSB:Hid (∀ V,GridG V→Calls Tryd.prog 17 #[.int .i64 (W:Int),.int .i64 (H:Int),.int .i64 c,.int .i64 (D:Int),.bool lace] V fun e w'=>e=.returned (.int .i64 (scanN lace W H N D:Int))∧Below V.heap.size V w'):=fun V hV=>implScanBytes_in W H N D c (D:Int) lace V hW hH hd hN rfl hV
 have hNT:scanN lace W H N D≤7 * 4824:=Nat.le_trans (offP_small hW.2 hH.2 hN4 hD16 _) (Nat.mul_le_mul_right _ (cntL_le lace))
 have HPT:Hid (∀ (V:World) (G:Nat),Below w.heap.size w V→w.heap.size≤G→G < V.heap.size→Calls Tryd.prog 44 #[.agg #[.int .i64 (W:Int),.int .i64 (H:Int),.int .i64 c,.int .i64 (D:Int),.slice a n cap],.bool lace] V fun e w'=>∃ g c',e=.returned (.slice (some ⟨g,0,none⟩) (cntL lace) c')∧PartsLie w' g G (cntL lace) (partR lace W H c (D:Int) N f)∧Below V.heap.size V w'):=fun V G hV hwG hGV=>by
  have hold:∀ q o,a=some ⟨q,o,none⟩→n=0∨q≠G:=fun q o hq=>by
   rcases hC with h0 | ⟨g',o',h1,h2,-⟩
   ·exact .inl h0
   ·rw[h1] at hq
    cases hq
    exact .inr (by omega)
  cases lace with
  | false=>
   refine (scanParts_one (W:Int) (H:Int) c (D:Int) a n cap V).mono ?_
   rintro e w' ⟨g,rfl,hg,hb,hB⟩
   refine⟨g,_,rfl,parts_of_one (a:=a) (cap:=cap) hg hGV ?_ ?_ ?_ hcm ?_,hB⟩
   ·show w'.heap[g]?=some (.cells #[.int .i64 (W:Int),.int .i64 (H:Int),.int .i64 c,.int .i64 (D:Int),.slice a (W * H * N) cap] 26 (0,0))
    rw[← hn]
    exact hb
   ·show Came w' a (W * H * N) f
    rw[← hn]
    exact (hC.called hV).called hB
   ·show W * H * N≤cap
    rw[← hn]
    exact hcap
   ·show ∀ q o,a=some ⟨q,o,none⟩→W * H * N=0∨q≠G
    rw[← hn]
    exact hold
  | true=>
   refine (scanParts_lace ⟨(W:Int),(H:Int),c,(D:Int),n,f⟩ a cap V (hC.called hV) (by show n≤1048576; omega) hcap hcm (hG.called hV) hok).mono ?_
   rintro e w' ⟨a',c',rfl,hS,hB⟩
   have hS':RSL w' (V.heap.size+1) a' 7 (partR true W H c (D:Int) N f):=by
    have e1:passesR ⟨(W:Int),(H:Int),c,(D:Int),n,f⟩=partR true W H c (D:Int) N f:=by
     rw[partR_lace]
     unfold passesR
     show passR (W:Int).toNat (H:Int).toNat c (D:Int) (chan c).toNat f=_
     rw[hN]
     rfl
    rw[e1] at hS
    exact hS
   obtain⟨g,rfl,hp⟩:=parts_of_rsl (G:=G) (by omega) hS'
   exact⟨g,c',rfl,hp,hB⟩
 have HLL:Hid (∀ p,(scanL lace way W H N D f p).length=chL lace W H p * (rb (cwL lace W H p * N) D+1)):=fun p=>scanL_length hway hW.2 hN4 hD16 p
 have HPL:Hid (∀ p,(partsL (scanL lace way W H N D f) p).length=offP (cwL lace W H) (chL lace W H) N D p):=fun p=>partsL_length p (fun q _=>HLL.out q)
 have HOF:Hid (∀ p,offP (cwL lace W H) (chL lace W H) N D (p+1)=offP (cwL lace W H) (chL lace W H) N D p+chL lace W H p * (rb (cwL lace W H p * N) D+1)):=fun p=>rfl
 have HTL:Hid (∀ (p:Nat),p < cntL lace→∀ (A:Option Addr) (C base G NT off m ct:Nat) (h0:Nat→Int) (tv:Value) (V:World),Came V A (cwL lace W H p * chL lace W H p * N) (fL lace W H N f p)→cwL lace W H p * chL lace W H p * N≤C→C≤maxLen→(∀ q o,A=some ⟨q,o,none⟩→cwL lace W H p * chL lace W H p * N=0∨q≠G)→BFn V base G NT NT h0→(chL lace W H p=0∨tv=.slice (some ⟨G,off,none⟩) m ct)→chL lace W H p * (rb (cwL lace W H p * N) D+1)≤m→m≤ct→ct≤1048576→off+chL lace W H p * (rb (cwL lace W H p * N) D+1)≤NT→
   Calls Tryd.prog 45 #[rasA (partR lace W H c (D:Int) N f p) A C,tv,.int .i64 way] V fun e w'=>e=.returned (.int .i64 ((chL lace W H p * (rb (cwL lace W H p * N) D+1):Nat):Int))∧(∃ h,BFn w' base G NT NT h∧(∀ i,i < chL lace W H p * (rb (cwL lace W H p * N) D+1)→h (off+i)=(scanL lace way W H N D f p).getD i 0)∧(∀ i,i < off→h i=h0 i))∧But G V w'):=fun p hp A C base G NT off m ct h0 tv V k1 k2 k3 k4 k5 k6 k7 k8 k9 k10=>
  tellLines_any (cwL lace W H p) (chL lace W H p) N D (cwL lace W H p * chL lace W H p * N) C c way A (fL lace W H N f p) h0 base G NT NT off tv V m ct (Nat.le_trans (cwL_le _ _ _ _) hW.2) (Nat.le_trans (chL_le _ _ _ _) hH.2) (fun e=>cwL_pos hW.1 e) hd hN hway (by rw [Nat.mul_comm (cwL lace W H p),Nat.mul_assoc]) k2 k3 k1 (fL_fit hN1 hp (by rw [← hn]; exact hF)) k4 k5 k6 k7 k8 k9 k10
 have hcnt:=cntL_le lace
 have HEND:Hid (scanN lace W H N D=offP (cwL lace W H) (chL lace W H) N D (cntL lace)):=rfl
 have HMON:Hid (∀ p q,p≤q→offP (cwL lace W H) (chL lace W H) N D p≤offP (cwL lace W H) (chL lace W H) N D q):=fun p q h=>offP_mono h
 have HO0:Hid (offP (cwL lace W H) (chL lace W H) N D 0=0):=rfl
 have HG:=hid_of hG
 have HTX:Hid (scanT lace way W H N D f=strOfNums (partsL (scanL lace way W H N D f) (cntL lace))):=rfl
 rw[HTX.out]
 have HRX:Hid (∀ p,partR lace W H c (D:Int) N f p=⟨(cwL lace W H p:Int),(chL lace W H p:Int),c,(D:Int),cwL lace W H p * chL lace W H p * N,fL lace W H N f p⟩):=fun p=>rfl
 generalize scanN lace W H N D=NT at *
 generalize offP (cwL lace W H) (chL lace W H) N D=OF at *
 generalize partR lace W H c (D:Int) N f=PR at *
 generalize scanL lace way W H N D f=L at *
 generalize cntL lace=K at *
 clear hC hF hG hd hN hR hok HTX hn
 go_enter Tryd.func15,Tryd.ntmps15
 go_wp2_with fail
 generalize w.alloc (.cells #[.int .i64 (W:Int),.int .i64 (H:Int),.int .i64 c,.int .i64 (D:Int),.slice a n cap] 26)=W0 at HX HB HR ⊢
 refine HR.out.mono ?_
 rintro e w1 ⟨rfl,hB1⟩
 have bx1:=(hB1.block _ (block_lt HX.out)).trans HX.out
 have k0:w1.cell? ⟨w.heap.size,0,none⟩=some (.int .i64 (W:Int)):=(cell_of_block bx1 0).trans rfl
 have k1:w1.cell? ⟨w.heap.size,1,none⟩=some (.int .i64 (H:Int)):=(cell_of_block bx1 1).trans rfl
 have k2:w1.cell? ⟨w.heap.size,2,none⟩=some (.int .i64 c):=(cell_of_block bx1 2).trans rfl
 have k3:w1.cell? ⟨w.heap.size,3,none⟩=some (.int .i64 (D:Int)):=(cell_of_block bx1 3).trans rfl
 have k4:w1.cell? ⟨w.heap.size,4,none⟩=some (.slice a n cap):=(cell_of_block bx1 4).trans rfl
 have lx1:=block_lt bx1
 have BX1:=hid_of bx1
 have HB1:=hid_of (bnext HB.out hB1)
 clear bx1 hB1 HX HB HR
 have hsb:=HSB.out w1 (HG.out.called HB1.out)
 go_wp2_with fail
 refine hsb.mono ?_
 rintro e w2 ⟨rfl,hB2⟩
 clear hsb k0 k1 k2 k3 k4 lx1
 have HB2:=hid_of (bnext HB1.out hB2)
 have BX2:=hid_of ((hB2.block _ (block_lt BX1.out)).trans BX1.out)
 clear hB2
 have hmk:=make_bytes12 w2 NT (by omega)
 have hO3:BFn (w2.alloc (.cells (madeCells #[Value.int .u8 0] NT) 5)) w.heap.size w2.heap.size NT NT (fun _=>0):=BFn.made (base:=w.heap.size) w2 NT (by unfold maxLen; omega) HB2.out.size
 have b3:=bstart w2 (.cells (madeCells #[Value.int .u8 0] NT) 5)
 have BX3:=hid_of ((b3.block _ (block_lt BX2.out)).trans BX2.out)
 have HB3:=hid_of (bnext HB2.out b3)
 have hwG:w.heap.size≤w2.heap.size:=HB2.out.size
 have hxG:w.heap.size < w2.heap.size:=block_lt BX2.out
 generalize w2.alloc (.cells (madeCells #[Value.int .u8 0] NT) 5)=w3 at hmk hO3 b3 BX3 HB3
 generalize w2.heap.size=G at hmk hO3 hwG hxG
 have HO3:=hid_of hO3
 have k0:w3.cell? ⟨w.heap.size,0,none⟩=some (.int .i64 (W:Int)):=(cell_of_block BX3.out 0).trans rfl
 have k1:w3.cell? ⟨w.heap.size,1,none⟩=some (.int .i64 (H:Int)):=(cell_of_block BX3.out 1).trans rfl
 have k2:w3.cell? ⟨w.heap.size,2,none⟩=some (.int .i64 c):=(cell_of_block BX3.out 2).trans rfl
 have k3:w3.cell? ⟨w.heap.size,3,none⟩=some (.int .i64 (D:Int)):=(cell_of_block BX3.out 3).trans rfl
 have k4:w3.cell? ⟨w.heap.size,4,none⟩=some (.slice a n cap):=(cell_of_block BX3.out 4).trans rfl
 have lx3:=block_lt BX3.out
 have hpt:=HPT.out w3 G HB3.out hwG (Own.lt hO3)
 clear hO3 b3
 go_wp2_with fail
 refine hpt.mono ?_
 rintro e w4 ⟨g,c',rfl,hPL,hB4⟩
 have HP:=hid_of hPL
 have HO4:=hid_of (HO3.out.called hB4)
 have HB4:=hid_of (bnext HB3.out hB4)
 clear hPL hB4 hpt hmk k0 k1 k2 k3 k4 lx3
 go_wp2_with fail
 go_loopw [9,38] (fun v i w'=>∃ p:Nat,p≤K∧i=.int .i64 (p:Int)∧v=.int .i64 (OF p:Int)∧Hid (ScoI w4 w' w.heap.size G NT L OF p)) (fun _ i _=>K - (intOf i).toNat)
 case atStart=>exact⟨0,Nat.zero_le _,rfl,by rw [HO0.out]; rfl,⟨_,HO4.out,fun i hi=>absurd hi (by rw [HO0.out]; exact Nat.not_lt_zero i)⟩,But.refl _ _⟩
 case round=>
  obtain⟨p,hp,rfl,rfl,hS⟩:=hrel
  by_cases hlt:p < K
  ·obtain⟨⟨h,hO,hh⟩,hB⟩:=hS.out
   obtain⟨hg1,hg2,A,C,hA⟩:=HP.out.but hB
   obtain⟨⟨c0,c1,c2,c3,c4⟩,hCm,hcp,hcx,hqn⟩:=hA p hlt
   rw[HRX.out p] at c0 c1 c2 c3 c4 hCm hcp hqn
   have HTP:=hid_of (HTL.out p hlt)
   rw[HRX.out p] at HTP
   have hofs:OF (p+1)=OF p+chL lace W H p * (rb (cwL lace W H p * N) D+1):=HOF.out p
   have hofe:OF (p+1)≤NT:=by rw [HEND.out]; exact HMON.out _ _ (by omega)
   have hLp:=HLL.out p
   have hPp:=HPL.out p
   obtain⟨Q,hQ⟩:∃ Q,Q=chL lace W H p * (rb (cwL lace W H p * N) D+1):=⟨_,rfl⟩
   have HQ0:Hid (Q=0→chL lace W H p=0):=fun e=>by
    rcases Nat.eq_zero_or_pos (chL lace W H p) with z | z
    ·exact z
    ·have:=Nat.mul_le_mul z (show 1≤rb (cwL lace W H p * N) D+1 by omega)
     omega
   rw[← hQ] at HTP hofs hLp
   generalize chL lace W H p=ch at *
   generalize cwL lace W H p=cw at *
   obtain⟨n',hn'⟩:∃ n',n'=cw * ch * N:=⟨_,rfl⟩
   rw[← hn'] at c4 hCm hcp hqn HTP
   obtain⟨F,hFF⟩:∃ F,F=fL lace W H N f p:=⟨_,rfl⟩
   rw[← hFF] at hCm HTP
   have HCM:=hid_of hCm
   have HQN:=hid_of hqn
   have HHH:=hid_of hh
   have HBB:=hid_of hB
   have HOO:=hid_of hO
   have HNX:Hid (∀ w',(∃ h',BFn w' w.heap.size G NT NT h'∧(∀ i,i < Q→h' (OF p+i)=(L p).getD i 0)∧(∀ i,i < OF p→h' i=h i))→But G wr w'→ScoI w4 w' w.heap.size G NT L OF (p+1)):=fun w' hT hb=>scoI_next hPp (by rw [hLp]; exact hofs) HHH.out HBB.out (by rw [hLp]; exact hT) hb
   have HOE:=hid_of hofs
   have hob:OF p+Q≤NT:=by omega
   obtain⟨o,ho⟩:∃ o,o=OF p:=⟨_,rfl⟩
   rw[← ho] at hob HNX ⊢
   have HOO2:=hid_of ho
   clear hQ hn' hFF hCm hqn hh hB hO hA hofs ho hLp hPp hofe
   go_wp2_with fail
   have b5:=bstart wr (.cells #[.int .i64 (cw:Int),.int .i64 (ch:Int),.int .i64 c,.int .i64 (D:Int),.slice (A p) n' (C p)] 26)
   have BX5:Hid ((wr.alloc (.cells #[.int .i64 (cw:Int),.int .i64 (ch:Int),.int .i64 c,.int .i64 (D:Int),.slice (A p) n' (C p)] 26)).heap[wr.heap.size]?=some (.cells #[.int .i64 (cw:Int),.int .i64 (ch:Int),.int .i64 c,.int .i64 (D:Int),.slice (A p) n' (C p)] 26 (0,0))):=heap_alloc_new wr _
   have HB5:=hid_of b5
   have hXG:wr.heap.size≠G:=by have:=Own.lt HOO.out; omega
   generalize wr.alloc (.cells #[.int .i64 (cw:Int),.int .i64 (ch:Int),.int .i64 c,.int .i64 (D:Int),.slice (A p) n' (C p)] 26)=w5 at b5 BX5 HB5 ⊢
   generalize wr.heap.size=X at BX5 hXG ⊢
   have ntl:o≤NT:=by omega
   have nti:(o:Int)≤(NT:Int):=by omega
   obtain⟨tv,htv⟩:∃ tv:Value,tv=.slice (if NT=o then some ⟨G,0,none⟩ else some ⟨G,o,none⟩) (NT - o) (NT - o):=⟨_,rfl⟩
   have HTV:=hid_of htv
   clear b5 htv c0 c1 c2 c3 c4
   refine wp_region_held (S:=fun u=>u.cell? ⟨X,0,none⟩=some (.int .i64 (cw:Int))∧u.cell? ⟨X,1,none⟩=some (.int .i64 (ch:Int))∧u.cell? ⟨X,2,none⟩=some (.int .i64 c)∧u.cell? ⟨X,3,none⟩=some (.int .i64 (D:Int))∧u.cell? ⟨X,4,none⟩=some (.slice (A p) n' (C p))∧X < u.heap.size) (by kernel_rfl) ?_
   show wpAnyH _ _ _ _ _ _ _ _ w5.drew
   have HS0:=tel_cells (W:=w5.drew) BX5.out
   refine wpAnyH_take (i:=0) (v:=.int .i64 (o:Int)) rfl (by kernel_rfl) (by kernel_rfl) (by kernel_rfl) (fun _ _ _ h=>h) (Or.inl ⟨by rfl,?_⟩) HS0 ?_
   ·intro w' hS
    obtain⟨s0,s1,s2,s3,s4,s5⟩:=hS
    go_simp
   simp only [Act.put,List.getElem_toArray,List.getElem_cons_zero,List.setIfInBounds_toArray,List.set_cons_zero,List.set_cons_succ]
   refine wpAnyH_take (i:=1) (v:=.agg #[.int .i64 (cw:Int),.int .i64 (ch:Int),.int .i64 c,.int .i64 (D:Int),.slice (A p) n' (C p)]) rfl (by kernel_rfl) (by kernel_rfl) (by kernel_rfl) (fun _ _ _ h=>h) (Or.inl ⟨by rfl,?_⟩) HS0 ?_
   ·intro w' hS
    obtain⟨s0,s1,s2,s3,s4,s5⟩:=hS
    go_simp
   simp only [Act.put,List.getElem_toArray,List.getElem_cons_zero,List.getElem_cons_succ,List.setIfInBounds_toArray,List.set_cons_zero,List.set_cons_succ]
   refine wpAnyH_take (i:=2) (v:=.slice (some ⟨G,0,none⟩) NT NT) rfl (by kernel_rfl) (by kernel_rfl) (by kernel_rfl) (fun _ _ _ h=>h) (Or.inl ⟨by rfl,?_⟩) HS0 ?_
   ·intro w' hS
    obtain⟨s0,s1,s2,s3,s4,s5⟩:=hS
    go_simp
   simp only [Act.put,List.getElem_toArray,List.getElem_cons_zero,List.getElem_cons_succ,List.setIfInBounds_toArray,List.set_cons_zero,List.set_cons_succ]
   refine wpAnyH_take (i:=3) (v:=.int .i64 (o:Int)) rfl (by kernel_rfl) (by kernel_rfl) (by kernel_rfl) (fun _ _ _ h=>h) (Or.inl ⟨by rfl,?_⟩) HS0 ?_
   ·intro w' hS
    obtain⟨s0,s1,s2,s3,s4,s5⟩:=hS
    go_simp
   simp only [Act.put,List.getElem_toArray,List.getElem_cons_zero,List.getElem_cons_succ,List.setIfInBounds_toArray,List.set_cons_zero,List.set_cons_succ]
   refine wpAnyH_take (i:=4) (v:=tv) rfl (by kernel_rfl) (by kernel_rfl) (by kernel_rfl) (fun _ _ _ h=>h) (Or.inl ⟨by rfl,?_⟩) HS0 ?_
   ·intro w' hS
    obtain⟨s0,s1,s2,s3,s4,s5⟩:=hS
    rw[HTV.out]
    by_cases hq:NT=o
    ·subst hq
     go_simp
    ·have hq2:¬ o=NT:=fun e=>hq e.symm
     go_simp
   simp only [Act.put,List.getElem_toArray,List.getElem_cons_zero,List.getElem_cons_succ,List.setIfInBounds_toArray,List.set_cons_zero,List.set_cons_succ]
   refine wpAnyH_take (i:=5) (v:=.int .i64 way) rfl (by kernel_rfl) (by kernel_rfl) (by kernel_rfl) (fun _ _ _ h=>h) (Or.inl ⟨by rfl,?_⟩) HS0 ?_
   ·intro w' hS
    obtain⟨s0,s1,s2,s3,s4,s5⟩:=hS
    go_simp
   simp only [Act.put,List.getElem_toArray,List.getElem_cons_zero,List.getElem_cons_succ,List.setIfInBounds_toArray,List.set_cons_zero,List.set_cons_succ]
   refine wpAnyH_ready (rs:=[6]) (by kernel_rfl) (by simp) ?_
   refine AllReadyH.cons rfl (fun K hK=>?_) AllReadyH.nil
   refine if_wanted (wanted_none rfl) ?_
   simp only [List.getElem_toArray,List.getElem_cons_zero,List.getElem_cons_succ]
   go_simp
   have htl:=HTP.out (A p) (C p) w.heap.size G NT o (NT - o) (NT - o) h tv w5.drew (HCM.out.called HB5.out.drew) hcp hcx HQN.out ((HOO.out.called HB5.out).drew) (by
    by_cases hq:NT=o
    ·exact .inl (HQ0.out (by omega))
    ·refine .inr ?_
     rw[HTV.out,if_neg hq]) (by omega) (Nat.le_refl _) (by omega) hob
   refine htl.mono ?_
   rintro e w6 ⟨rfl,hT6,hB6⟩
   have hB6':But G w5 w6:=⟨hB6.1,hB6.2,hB6.3,hB6.4,hB6.5⟩
   have BX6:=hid_of ((hB6'.block _ (block_lt BX5.out) hXG).trans BX5.out)
   have HN6:=hid_of (HNX.out w6 hT6 ((But.of_below HB5.out).trans hB6'))
   clear htl hT6 hB6 hB6' HNX HTP HOO HBB HHH
   refine hK.out _ _ (tel_cells BX6.out) (fun HS1=>?_)
   clear hK K HS0
   have woq:IntKind.i64.wrap ((o:Int)+(Q:Int))=(o:Int)+(Q:Int):=by rw [IntKind.wrap_i64]; omega
   refine wpAnyH_take (i:=7) (v:=.int .i64 ((o:Int)+(Q:Int))) rfl (by kernel_rfl) (by kernel_rfl) (by kernel_rfl) (fun _ _ _ h=>h) (Or.inl ⟨by rfl,?_⟩) HS1 ?_
   ·intro w' hS
    obtain⟨s0,s1,s2,s3,s4,s5⟩:=hS
    go_simp
   simp only [Act.put,List.getElem_toArray,List.getElem_cons_zero,List.getElem_cons_succ,List.setIfInBounds_toArray,List.set_cons_zero,List.set_cons_succ]
   refine wpAnyH_take (i:=8) (v:=.int .i64 ((o:Int)+(Q:Int))) rfl (by kernel_rfl) (by kernel_rfl) (by kernel_rfl) (fun _ _ _ h=>h) (Or.inl ⟨by rfl,?_⟩) HS1 ?_
   ·intro w' hS
    obtain⟨s0,s1,s2,s3,s4,s5⟩:=hS
    go_simp
   simp only [Act.put,List.getElem_toArray,List.getElem_cons_zero,List.getElem_cons_succ,List.setIfInBounds_toArray,List.set_cons_zero,List.set_cons_succ]
   refine wpAnyH_done (by kernel_rfl) ?_ _
   go_wp2_with fail
   go_roundw
   case rel=>exact⟨p+1,by omega,by go_num,by rw [HOE.out,← HOO2.out]; go_num,HN6⟩
   case measure=>simp [intOf]; omega
  ·obtain rfl:p=K:=by omega
   obtain⟨⟨h,hO,hh⟩,hB⟩:=hS.out
   have hcv:=hO.text (partsL L p) ((HPL.out p).trans HEND.out.symm) (fun i hi=>(hh i (by rw [← HEND.out]; exact hi)).symm)
   have HBE:Hid (Below w.heap.size w wr):=hB.below HB4.out hwG HB4.out.size
   clear hO hh hB hS
   go_wp2_with fail
   refine bodyPost_ret (v:=.tuple #[.string (strOfNums (partsL L p)),.bool true]) ?_ rfl ⟨rfl,HBE.out⟩
   simp[results,Tryd.results15,go_sem]
set_option maxHeartbeats 1600000 in
theorem implScanOf_out (x0 x1 x2 x3:Int) (a:Option Addr) (n cap:Nat) (f:Nat→Int) (lace:Bool) (way:Int) (w:World) (hC:Came w a n f) (hn:n≤1048576) (hcap:n≤cap) (hcm:cap≤maxLen) (h:¬ (RasR x0 x1 x2 x3 n f∧0≤way∧way≤5)):
  Calls Tryd.prog 15 #[.agg #[.int .i64 x0,.int .i64 x1,.int .i64 x2,.int .i64 x3,.slice a n cap],.bool lace,.int .i64 way] w fun e w'=>e=.returned (.tuple #[.string ⟨#[]⟩,.bool false])∧Below w.heap.size w w':=by
 have HB:=hid_of (bstart w (.cells #[.int .i64 x0,.int .i64 x1,.int .i64 x2,.int .i64 x3,.slice a n cap] 26))
 have hR:=implRaster x0 x1 x2 x3 a n cap f _ (hC.called HB.out) hn hcap hcm
 have HH:=hid_of h
 clear hC hcm h
 go_enter Tryd.func15,Tryd.ntmps15
 go_wp2_with fail
 generalize w.alloc (.cells #[.int .i64 x0,.int .i64 x1,.int .i64 x2,.int .i64 x3,.slice a n cap] 26)=W0 at HB hR ⊢
 refine hR.mono ?_
 rintro e w1 ⟨b,rfl,hb,hB1⟩
 have HB1:=hid_of (bnext HB.out hB1)
 have HBB:=hid_of hb
 clear hB1 hb hR HB
 cases b with
 | false=>
  go_wp2_with fail
  refine bodyPost_ret (v:=.tuple #[.string ⟨#[]⟩,.bool false]) ?_ rfl ⟨rfl,HB1.out⟩
  simp[results,Tryd.results15,go_sem]
 | true=>
  have hr:=HBB.out.mp rfl
  by_cases h0:way < 0
  ·have d1:decide (way < 0)=true:=decide_eq_true h0
   clear hr
   go_wp2_with fail
   refine bodyPost_ret (v:=.tuple #[.string ⟨#[]⟩,.bool false]) ?_ rfl ⟨rfl,HB1.out⟩
   simp[results,Tryd.results15,go_sem]
  ·have d1:decide (way < 0)=false:=decide_eq_false h0
   have h5:5 < way:=by
    rcases Int.lt_or_le 5 way with q | q
    ·exact q
    ·exact absurd ⟨hr,by omega,q⟩ HH.out
   have d2:decide (5 < way)=true:=decide_eq_true h5
   clear hr
   go_wp2_with fail
   refine bodyPost_ret (v:=.tuple #[.string ⟨#[]⟩,.bool false]) ?_ rfl ⟨rfl,HB1.out⟩
   simp[results,Tryd.results15,go_sem]
theorem scanOf_answer:ScanOfAnswer:=by
 intro r a cap lace way w hC hn hcap hcm hwf hG
 refine⟨fun h=>?_,fun h=>implScanOf_out r.x0 r.x1 r.x2 r.x3 a r.n cap r.f lace way w hC hn hcap hcm h⟩
 obtain⟨⟨h0,h1,h2,h3,h4⟩,hw⟩:=h
 obtain⟨x0,x1,x2,x3,n,f⟩:=r
 have hcr:=chan_range x2
 have h5:=five_range (depth_five h2)
 have b1:=h0.1
 have b2:=h0.2
 have b3:=h1.1
 have b4:=h1.2
 show Calls Tryd.prog 15 #[.agg #[.int .i64 x0,.int .i64 x1,.int .i64 x2,.int .i64 x3,.slice a n cap],.bool lace,.int .i64 way] w fun e w'=>e=.returned (.tuple #[.string (scanT lace way x0.toNat x1.toNat (chan x2).toNat x3.toNat f),.bool true])∧Below w.heap.size w w'
 obtain⟨W,rfl⟩:=Int.eq_ofNat_of_zero_le (show 0≤x0 by simp only at b1; omega)
 obtain⟨H,rfl⟩:=Int.eq_ofNat_of_zero_le (show 0≤x1 by simp only at b3; omega)
 obtain⟨N,hN⟩:=Int.eq_ofNat_of_zero_le hcr.1
 obtain⟨D,rfl⟩:=Int.eq_ofNat_of_zero_le (show 0≤x3 by simp only at h5; omega)
 rw[hN,Int.toNat_natCast,Int.toNat_natCast,Int.toNat_natCast,Int.toNat_natCast]
 simp only at b1 b2 b3 b4 h2 h3 h4
 refine implScanOf_in W H N D n cap x2 way a f lace w ⟨by omega,by omega⟩ ⟨by omega,by omega⟩ h2 hN hw ?_ hC hcap hcm (by rw [Int.toNat_natCast] at h4; exact h4) hG
 rw[hN] at h3
 have:((W * H * N:Nat):Int)=(W:Int) * (H:Int) * (N:Int):=by simp
 omega
end Go.Proofs.YtcbbcadfolgioaaDoor
