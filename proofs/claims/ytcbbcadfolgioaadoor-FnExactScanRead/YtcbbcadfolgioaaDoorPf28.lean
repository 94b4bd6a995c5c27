/-
  Texts of the proof, put together.
-/
import Derived.Test.YtcbbcadfolgioaaDoorPf23
import Derived.Test.YtcbbcadfolgioaaDoorPf27
namespace Go.Proofs.YtcbbcadfolgioaaDoor
open Go.RowKit Go.Joins OutMath TakeMath RastMath FiltMath PassMath ScanMath
def redQ (R P:Nat→Ras) (p j:Nat):Ras:=if j < p then R j else P j
def RedI (w w':World) (B X g K n S W H D:Nat) (c:Int) (R P:Nat→Ras) (A:Nat→Option Addr) (G C:Nat→Nat) (p:Nat):Prop:=
 ROwnA w' B g K (redQ R P p) A G C∧Below w.heap.size w w'∧w'.heap[w.heap.size]?=some (.cells #[.int .i64 0,.int .i64 0,.int .i64 0,.int .i64 0,.slice none 0 0] 26 (0,0))∧w'.heap[X]?=some (.cells #[.int .i64 (W:Int),.int .i64 (H:Int),.int .i64 c,.int .i64 (D:Int),.slice (some ⟨S,0,none⟩) n n] 26 (0,0))
def RdPost (t:ByteArray) (lace:Bool) (W H N D:Nat) (c:Int) (w:World) (e:Ending) (w':World):Prop:=
 (kindsR t lace W H N D∧∃ a' c',e=.returned (.tuple #[rasA (readAll t lace W H c (D:Int) N D) a' c',.int .i64 0])∧SL w' w.heap.size a' (readAll t lace W H c (D:Int) N D).n c' (readAll t lace W H c (D:Int) N D).f∧Below w.heap.size w w')∨
 (¬ kindsR t lace W H N D∧e=.returned (.tuple #[.agg #[.int .i64 0,.int .i64 0,.int .i64 0,.int .i64 0,.slice none 0 0],.int .i64 2])∧Below w.heap.size w w')
theorem RedI.next {w w5 w6:World} {B X g K n S W H D p S':Nat} {c:Int} {R P:Nat→Ras} {A:Nat→Option Addr} {G C:Nat→Nat} (hI:RedI w w5 B X g K n S W H D c R P A G C p) (hp:p < K) (hXB:X < B) (hwX:w.heap.size < X)
  (hb:But S' w5 w6) (hS1:0 < (P p).n→S'=G p) (hS0:(P p).n=0→w5.heap.size≤S') (h0:(R p).x0=(P p).x0∧(R p).x1=(P p).x1∧(R p).x2=(P p).x2∧(R p).x3=(P p).x3∧(R p).n=(P p).n)
  (hO:0 < (P p).n→IOwn w6 B S' (P p).n (C p) (R p).f):RedI w w6 B X g K n S W H D c R P A G C (p+1):=by
 obtain⟨h1,h2,h3,h4⟩:=hI
 have e0:redQ R P p p=P p:=if_neg (Nat.lt_irrefl _)
 have e1:redQ R P (p+1) p=R p:=if_pos (Nat.lt_succ_self _)
 have hB:B≤S'∨w5.heap.size≤S':=by
  rcases Nat.eq_zero_or_pos (P p).n with z | z
  ·exact .inr (hS0 z)
  ·have q:=h1.2.2.1 p hp
   rw[e0] at q
   rw[hS1 z]
   exact .inl (q.lt z).2
 have l3:=block_lt h3
 have l4:=block_lt h4
 refine⟨h1.read hp hb (by rw [e0]; exact hS1) (by rw [e0]; exact hS0) (fun j _ hj=>?_) (by rw [e0,e1]; exact h0) (by rw [e0,e1]; exact hO),hb.below h2 (by omega) h2.size,(hb.block _ l3 (by omega)).trans h3,(hb.block _ l4 (by omega)).trans h4⟩
 unfold redQ
 by_cases e:j < p
 ·rw[if_pos e,if_pos (by omega)]
 ·rw[if_neg e,if_neg (by omega)]
theorem RedI.called {w w5 w6:World} {B X g K n S W H D p:Nat} {c:Int} {R P:Nat→Ras} {A:Nat→Option Addr} {G C:Nat→Nat} (hI:RedI w w5 B X g K n S W H D c R P A G C p) (hb:Below w5.heap.size w5 w6):RedI w w6 B X g K n S W H D c R P A G C p:=by
 obtain⟨h1,h2,h3,h4⟩:=hI
 exact⟨h1.keep (fun b _ hb'=>hb.block b hb'),bnext h2 hb,(hb.block _ (block_lt h3)).trans h3,(hb.block _ (block_lt h4)).trans h4⟩
theorem redI_cells {w:World} {X:Nat} {x0 x1 x2 x3 x4:Value} (h:w.heap[X]?=some (.cells #[x0,x1,x2,x3,x4] 26 (0,0))):w.cell? ⟨X,0,none⟩=some x0∧w.cell? ⟨X,1,none⟩=some x1∧w.cell? ⟨X,2,none⟩=some x2∧w.cell? ⟨X,3,none⟩=some x3∧w.cell? ⟨X,4,none⟩=some x4∧(∀ k,w.frozen? ⟨X,k,none⟩=false)∧X < w.heap.size:=
 ⟨(cell_of_block h 0).trans rfl,(cell_of_block h 1).trans rfl,(cell_of_block h 2).trans rfl,(cell_of_block h 3).trans rfl,(cell_of_block h 4).trans rfl,fun k=>by simp [World.frozen?,h],block_lt h⟩
theorem wf_side {x:Nat} (h:1≤x∧x≤24):(Lit.int .i64 (x:Int)).wf=true:=by
 simp[Lit.wf,IntKind.min,IntKind.max,IntKind.signed,IntKind.bits]
 omega
theorem parts_own (W H N D n S B:Nat) (c:Int) (lace:Bool) (V:World) (hW:1≤W∧W≤24) (hH:1≤H∧H≤24) (hd:DepthR c (D:Int)) (hN:chan c=(N:Int)) (hn:n=W * H * N) (hO:IOwn V B S n n (fun _=>0)) (hG:GridG V) (hB:B≤V.heap.size) (hnm:n≤2304):
  Calls Tryd.prog 44 #[.agg #[.int .i64 (W:Int),.int .i64 (H:Int),.int .i64 c,.int .i64 (D:Int),.slice (some ⟨S,0,none⟩) n n],.bool lace] V fun e w'=>∃ g c',e=.returned (.slice (some ⟨g,0,none⟩) (cntL lace) c')∧(∃ A G C,ROwnA w' B g (cntL lace) (partR lace W H c (D:Int) N (fun _=>0)) A G C∧(lace=false→A 0=some ⟨S,0,none⟩∧C 0=n))∧Below V.heap.size V w':=by
 cases lace with
 | false=>
  refine (scanParts_one (W:Int) (H:Int) c (D:Int) (some ⟨S,0,none⟩) n n V).mono ?_
  rintro e w' ⟨g,rfl,hg,hb,hB'⟩
  have hlt:=hO.lt
  refine⟨g,_,rfl,⟨_,_,_,ROwnA.one (S:=S) (cap:=n) (by omega) (by omega) ?_ ?_ ?_ (by unfold maxLen; omega),fun _=>⟨rfl,rfl⟩⟩,hB'⟩
  ·show w'.heap[g]?=some (.cells #[.int .i64 (W:Int),.int .i64 (H:Int),.int .i64 c,.int .i64 (D:Int),.slice (some ⟨S,0,none⟩) (W * H * N) n] 26 (0,0))
   rw[← hn]
   exact hb
  ·show IOwn w' B S (W * H * N) n (fun _=>0)
   rw[← hn]
   exact hO.called hB'
  ·show W * H * N≤n
   rw[← hn]
   exact Nat.le_refl _
 | true=>
  have hok:RasR (W:Int) (H:Int) c (D:Int) n (fun _=>0):=⟨⟨by omega,by omega⟩,⟨by omega,by omega⟩,hd,by rw [hN,hn]; simp,fun i _=>⟨Int.le_refl _,by have:=p2_pos (D:Int).toNat; show (0:Int) < _; omega⟩⟩
  refine (scanParts_lace ⟨(W:Int),(H:Int),c,(D:Int),n,fun _=>0⟩ (some ⟨S,0,none⟩) n V hO.sl.came (by show n≤1048576; omega) (Nat.le_refl _) (by unfold maxLen; show n≤_; omega) hG hok).mono ?_
  rintro e w' ⟨a',c',rfl,hS,hB'⟩
  have e1:passesR ⟨(W:Int),(H:Int),c,(D:Int),n,fun _=>0⟩=partR true W H c (D:Int) N (fun _=>0):=by
   rw[partR_lace]
   unfold passesR
   show passR (W:Int).toNat (H:Int).toNat c (D:Int) (chan c).toNat (fun _=>0)=_
   rw[hN]
   rfl
  rw[e1] at hS
  rcases hS with q | ⟨g,rfl,q⟩
  ·omega
  ·obtain⟨A,G,C,q⟩:=ROwn.mono q (show B≤V.heap.size+1 by omega)
   exact⟨g,c',rfl,⟨A,G,C,q,fun e=>by cases e⟩,hB'⟩
set_option maxRecDepth 100000 in
set_option maxHeartbeats 6400000 in
theorem implScanRead_in (W H N D:Nat) (c:Int) (lace:Bool) (t:ByteArray) (w:World) (hW:1≤W∧W≤24) (hH:1≤H∧H≤24) (hd:DepthR c (D:Int)) (hN:chan c=(N:Int)) (hts:t.size=scanN lace W H N D) (hG:GridG w):
  Calls Tryd.prog 16 #[.string t,.int .i64 (W:Int),.int .i64 (H:Int),.int .i64 c,.int .i64 (D:Int),.bool lace] w (RdPost t lace W H N D c w):=by
 have hN4:N≤4:=by have:=(chan_range c).2; omega
 have hN1:1≤N:=by have:=chan_pos hd; omega
 have hD16:D≤16:=by have:=five_range (depth_five hd); omega
 obtain⟨n,hn⟩:∃ n,n=W * H * N:=⟨_,rfl⟩
 have hnm:n≤2304:=by
  have h1:=Nat.mul_le_mul hW.2 hH.2
  have h2:=Nat.mul_le_mul h1 hN4
  rw[hn]
  exact Nat.le_trans h2 (by omega)
 have hn1:1≤n:=by
  rw[hn]
  exact Nat.mul_le_mul (Nat.mul_le_mul hW.1 hH.1) hN1
 have hsb:=implScanBytes_in W H N D c (D:Int) lace (w.alloc (.cells #[.int .i64 0,.int .i64 0,.int .i64 0,.int .i64 0,.slice none 0 0] 26)) hW hH hd hN rfl (hG.called (bstart w (.cells #[.int .i64 0,.int .i64 0,.int .i64 0,.int .i64 0,.slice none 0 0] 26)))
 have hNT:t.size≤7 * 4824:=by
  rw[hts]
  exact Nat.le_trans (offP_small hW.2 hH.2 hN4 hD16 _) (Nat.mul_le_mul_right _ (cntL_le lace))
 have ht1:1≤t.size:=by
  rw[hts]
  exact scanN_ge hW hH
 have he0:((t.size:Int) == 0)=false:=beq_eq_false_iff_ne.mpr (by omega)
 have he1:decide ((t.size:Int)=0)=false:=decide_eq_false (by omega)
 rw[← hts] at hsb
 have hrs:=fun (a:Option Addr) (n cap:Nat) (V:World)=>rowSize_any (W:Int) (H:Int) c (D:Int) a n cap ((W * N:Nat):Int) V (by omega) (by have:=Nat.mul_le_mul hW.2 hN4; omega) (by rw [hN]; simp)
 have m1:(H:Int) * ((W * N:Nat):Int)=(n:Int):=by
  rw[hn,Nat.mul_comm W H,Nat.mul_assoc]
  simp
 obtain⟨s,hs⟩:∃ s,s=W * N:=⟨_,rfl⟩
 have hs96:s≤96:=by rw [hs]; exact Nat.mul_le_mul hW.2 hN4
 rw[← hs] at hrs m1
 have HPT:Hid (∀ (V:World) (S B:Nat),Below w.heap.size w V→IOwn V B S n n (fun _=>0)→B≤V.heap.size→Calls Tryd.prog 44 #[.agg #[.int .i64 (W:Int),.int .i64 (H:Int),.int .i64 c,.int .i64 (D:Int),.slice (some ⟨S,0,none⟩) n n],.bool lace] V fun e w'=>∃ g c',e=.returned (.slice (some ⟨g,0,none⟩) (cntL lace) c')∧(∃ A G C,ROwnA w' B g (cntL lace) (partR lace W H c (D:Int) N (fun _=>0)) A G C∧(lace=false→A 0=some ⟨S,0,none⟩∧C 0=n))∧Below V.heap.size V w'):=fun V S B hV hO hB=>
  parts_own W H N D n S B c lace V hW hH hd hN hn hO (hG.called hV) hB hnm
 have HOF:Hid (∀ p,offP (cwL lace W H) (chL lace W H) N D (p+1)=offP (cwL lace W H) (chL lace W H) N D p+chL lace W H p * (rb (cwL lace W H p * N) D+1)):=fun p=>rfl
 have HMON:Hid (∀ p q,p≤q→offP (cwL lace W H) (chL lace W H) N D p≤offP (cwL lace W H) (chL lace W H) N D q):=fun p q h=>offP_mono h
 have HRD:Hid (∀ (p:Nat),p < cntL lace→∀ (A:Option Addr) (C B S':Nat) (h0:Nat→Int) (V:World),(chL lace W H p=0∨A=some ⟨S',0,none⟩∧IOwn V B S' (cwL lace W H p * chL lace W H p * N) C h0)→cwL lace W H p * chL lace W H p * N≤C→C≤maxLen→
   Calls Tryd.prog 46 #[.agg #[.int .i64 (cwL lace W H p:Int),.int .i64 (chL lace W H p:Int),.int .i64 c,.int .i64 (D:Int),.slice A (cwL lace W H p * chL lace W H p * N) C],.string (t.extract (offP (cwL lace W H) (chL lace W H) N D p) t.size)] V fun e w'=>∃ b,e=.returned (.bool b)∧(b=true↔∀ j,j < chL lace W H p→bts t (offP (cwL lace W H) (chL lace W H) N D p+j * (rb (cwL lace W H p * N) D+1))≤4)∧(b=true→chL lace W H p=0∨IOwn w' B S' (cwL lace W H p * chL lace W H p * N) C (readR t lace W H c (D:Int) N D p).f)∧But S' V w'):=fun p hp A C B S' h0 V k1 k2 k3=>by
  have he:cwL lace W H p * chL lace W H p * N=chL lace W H p * (cwL lace W H p * N):=by rw [Nat.mul_comm (cwL lace W H p),Nat.mul_assoc]
  have ho:offP (cwL lace W H) (chL lace W H) N D (p+1)≤t.size:=by
   rw[hts]
   exact HMON.out _ _ (by omega)
  have ho2:=HOF.out p
  have hsz:(t.extract (offP (cwL lace W H) (chL lace W H) N D p) t.size).size=t.size - offP (cwL lace W H) (chL lace W H) N D p:=by simp
  refine (readLines_any (cwL lace W H p) (chL lace W H p) N D _ C c A h0 B S' (t.extract (offP (cwL lace W H) (chL lace W H) N D p) t.size) V (Nat.le_trans (cwL_le _ _ _ _) hW.2) (Nat.le_trans (chL_le _ _ _ _) hH.2) (fun e=>cwL_pos hW.1 e) hd hN he k2 k3 k1 (by rw [hsz]; omega) (by rw [hsz]; omega)).mono ?_
  rintro e w' ⟨b,rfl,hb,hO,hB⟩
  refine⟨b,rfl,hb.trans ⟨fun h j hj=>?_,fun h j hj=>?_⟩,fun hbt=>?_,hB⟩
  ·have:=h j hj
   have h2:=Nat.mul_le_mul_right (rb (cwL lace W H p * N) D+1) (show j+1≤chL lace W H p by omega)
   rw[Nat.add_mul,Nat.one_mul] at h2
   rw[bts_behind t _ _ (by omega)] at this
   exact this
  ·have h2:=Nat.mul_le_mul_right (rb (cwL lace W H p * N) D+1) (show j+1≤chL lace W H p by omega)
   rw[Nat.add_mul,Nat.one_mul] at h2
   rw[bts_behind t _ _ (by omega)]
   exact h j hj
  ·rcases hO hbt with z | ⟨h,q1,q2⟩
   ·exact .inl z
   ·refine .inr (q1.congr fun i hi=>?_)
    rw[q2 i hi]
    exact rsmp_behind t _ _ D _ (chL lace W H p) (by omega) i (by rw [← he]; exact hi)
 have HLB:Hid (∀ p V,p < cntL lace→Calls Tryd.prog 47 #[.int .i64 (cwL lace W H p:Int),.int .i64 (chL lace W H p:Int),.int .i64 c,.int .i64 (D:Int)] V fun e w'=>e=.returned (.int .i64 ((chL lace W H p * (rb (cwL lace W H p * N) D+1):Nat):Int))∧Below V.heap.size V w'):=fun p V _=>lineBytes_any (cwL lace W H p) (chL lace W H p) N D c (D:Int) V (Nat.le_trans (cwL_le _ _ _ _) hW.2) (Nat.le_trans (chL_le _ _ _ _) hH.2) (fun e=>by
  rcases Nat.eq_zero_or_pos (chL lace W H p) with z | z
  ·exact z
  ·have:=cwL_pos (lace:=lace) hW.1 z
   omega) hd hN rfl
 have HZ:Hid (∀ p,0 < chL lace W H p→0 < cwL lace W H p * chL lace W H p * N):=fun p h=>Nat.mul_pos (Nat.mul_pos (cwL_pos hW.1 h) h) hN1
 have HZ0:Hid (∀ p,chL lace W H p=0→cwL lace W H p * chL lace W H p * N=0):=fun p h=>by rw [h,Nat.mul_zero,Nat.zero_mul]
 have hcnt:=cntL_le lace
 have HKR:Hid (kindsR t lace W H N D↔∀ p,p < cntL lace→∀ j,j < chL lace W H p→bts t (offP (cwL lace W H) (chL lace W H) N D p+j * (rb (cwL lace W H p * N) D+1))≤4):=Iff.rfl
 have HEND:Hid (t.size=offP (cwL lace W H) (chL lace W H) N D (cntL lace)):=hts
 have HO0:Hid (offP (cwL lace W H) (chL lace W H) N D 0=0):=rfl
 have HG:=hid_of hG
 have HPX:Hid (∀ p,partR lace W H c (D:Int) N (fun _=>0) p=⟨(cwL lace W H p:Int),(chL lace W H p:Int),c,(D:Int),cwL lace W H p * chL lace W H p * N,fL lace W H N (fun _=>0) p⟩):=fun p=>rfl
 have HRX:Hid (∀ p,(readR t lace W H c (D:Int) N D p).x0=(cwL lace W H p:Int)∧(readR t lace W H c (D:Int) N D p).x1=(chL lace W H p:Int)∧(readR t lace W H c (D:Int) N D p).x2=c∧(readR t lace W H c (D:Int) N D p).x3=(D:Int)∧(readR t lace W H c (D:Int) N D p).n=cwL lace W H p * chL lace W H p * N):=fun p=>⟨rfl,rfl,rfl,rfl,rfl⟩
 have HRN:Hid (∀ p,p < cntL lace→(readR t lace W H c (D:Int) N D p).n≤1048576):=fun p _=>by
  show cwL lace W H p * chL lace W H p * N≤1048576
  have h1:=Nat.mul_le_mul (Nat.mul_le_mul (Nat.le_trans (cwL_le lace W H p) hW.2) (Nat.le_trans (chL_le lace W H p) hH.2)) hN4
  omega
 have HRL:Hid (lace=true→cntL lace=7∧FromR (W:Int) (H:Int) 7 (readR t lace W H c (D:Int) N D)∧readAll t lace W H c (D:Int) N D=joinR (W:Int) (H:Int) (readR t lace W H c (D:Int) N D)):=fun e=>by
  subst e
  exact⟨rfl,read_from t hW hH hN hd rfl,rfl⟩
 have HR1:Hid (lace=false→cntL lace=1∧readAll t lace W H c (D:Int) N D=⟨(W:Int),(H:Int),c,(D:Int),n,(readR t lace W H c (D:Int) N D 0).f⟩∧(readR t lace W H c (D:Int) N D 0).n=n):=fun e=>by
  subst e
  rw[hn]
  exact⟨rfl,rfl,rfl⟩
 have hFrom:=fun (a:Option Addr) (c':Nat) (R:Nat→Ras) (V:World) (h1:RCame V a 7 R) (h2:∀ j,j < 7→(R j).n≤1048576) (h3:FromR (W:Int) (H:Int) 7 R) (h4:GridG V)=>(from_answer (W:Int) (H:Int) a 7 c' R V h1 (by omega) h2 (wf_side hW) (wf_side hH) h4).1 h3
 unfold RdPost
 generalize kindsR t lace W H N D=KR at *
 generalize readAll t lace W H c (D:Int) N D=RA at *
 generalize offP (cwL lace W H) (chL lace W H) N D=OF at *
 generalize readR t lace W H c (D:Int) N D=RR at *
 generalize partR lace W H c (D:Int) N (fun _=>0)=PR at *
 generalize cntL lace=K at *
 have HX0:Hid ((w.alloc (.cells #[.int .i64 0,.int .i64 0,.int .i64 0,.int .i64 0,.slice none 0 0] 26)).heap[w.heap.size]?=some (.cells #[.int .i64 0,.int .i64 0,.int .i64 0,.int .i64 0,.slice none 0 0] 26 (0,0))):=heap_alloc_new w _
 have HB0:=hid_of (bstart w (.cells #[.int .i64 0,.int .i64 0,.int .i64 0,.int .i64 0,.slice none 0 0] 26))
 have HF:=hid_of hFrom
 clear hd hN hts hG hn hs hN1 hFrom
 go_enter Tryd.func16,Tryd.ntmps16
 go_wp2_with fail
 generalize w.alloc (.cells #[.int .i64 0,.int .i64 0,.int .i64 0,.int .i64 0,.slice none 0 0] 26)=W0 at HX0 HB0 hsb ⊢
 refine hsb.mono ?_
 rintro e w1 ⟨rfl,hB1⟩
 have HX1:=hid_of ((hB1.block _ (block_lt HX0.out)).trans HX0.out)
 have HB1:=hid_of (bnext HB0.out hB1)
 clear hB1 HX0 HB0 hsb
 have HXO:Hid ((w1.alloc (.cells #[.int .i64 (W:Int),.int .i64 (H:Int),.int .i64 c,.int .i64 (D:Int),.slice none 0 0] 26)).heap[w1.heap.size]?=some (.cells #[.int .i64 (W:Int),.int .i64 (H:Int),.int .i64 c,.int .i64 (D:Int),.slice none 0 0] 26 (0,0))):=heap_alloc_new w1 _
 have HXZ:=hid_of ((Below.heap_alloc w1 (.cells #[.int .i64 (W:Int),.int .i64 (H:Int),.int .i64 c,.int .i64 (D:Int),.slice none 0 0] 26) _ (block_lt HX1.out)).trans HX1.out)
 have HB2:=hid_of (bal HB1.out (.cells #[.int .i64 (W:Int),.int .i64 (H:Int),.int .i64 c,.int .i64 (D:Int),.slice none 0 0] 26))
 have hwX:=block_lt HX1.out
 go_wp2_with fail
 refine (hrs _ _ _ _).mono ?_
 rintro e w3 ⟨rfl,hB3⟩
 obtain⟨X,hX⟩:∃ X,X=w1.heap.size:=⟨_,rfl⟩
 have HX3:Hid (w3.heap[w.heap.size]?=some (.cells #[.int .i64 0,.int .i64 0,.int .i64 0,.int .i64 0,.slice none 0 0] 26 (0,0))):=(hB3.block _ (by exact block_lt HXZ.out)).trans HXZ.out
 have HO3:Hid (w3.heap[X]?=some (.cells #[.int .i64 (W:Int),.int .i64 (H:Int),.int .i64 c,.int .i64 (D:Int),.slice none 0 0] 26 (0,0))):=by rw [hX]; exact (hB3.block _ (by exact block_lt HXO.out)).trans HXO.out
 have HB3:Hid (Below w.heap.size w w3):=bnext HB2.out ⟨hB3.1,hB3.2,hB3.3,hB3.4,hB3.5⟩
 rw[← hX] at hwX ⊢
 clear hX hB3 HXO HXZ HB2 HX1 HB1 hrs
 have hmk:=make_ints w3 n (by omega)
 obtain⟨S,hS⟩:∃ S,S=w3.heap.size:=⟨_,rfl⟩
 have hXS:X < S:=by rw [hS]; exact block_lt HO3.out
 have q0:=(Below.heap_alloc w3 (.cells (madeCells #[Value.int .i64 0] n) 3) _ (block_lt HX3.out)).trans HX3.out
 have q1:=(Below.heap_alloc w3 (.cells (madeCells #[Value.int .i64 0] n) 3) _ (block_lt HO3.out)).trans HO3.out
 have q2:=IOwn.made (base:=X+1) w3 n (by unfold maxLen; omega) (block_lt HO3.out)
 have q3:=bal HB3.out (.cells (madeCells #[Value.int .i64 0] n) 3)
 rw[← hS] at q2 hmk
 generalize w3.alloc (.cells (madeCells #[Value.int .i64 0] n) 3)=W3 at hmk q0 q1 q2 q3
 have HX4:Hid ((W3.setCell ⟨X,4,none⟩ (.slice (some ⟨S,0,none⟩) n n)).heap[w.heap.size]?=some (.cells #[.int .i64 0,.int .i64 0,.int .i64 0,.int .i64 0,.slice none 0 0] 26 (0,0))):=(heap_setCell_other _ ⟨X,4,none⟩ _ _ (by show ¬ w.heap.size=X; omega)).trans q0
 have HO4:Hid ((W3.setCell ⟨X,4,none⟩ (.slice (some ⟨S,0,none⟩) n n)).heap[X]?=some (.cells #[.int .i64 (W:Int),.int .i64 (H:Int),.int .i64 c,.int .i64 (D:Int),.slice (some ⟨S,0,none⟩) n n] 26 (0,0))):=by
  show _=_
  have:=block_setCell (i:=4) q1 (.slice (some ⟨S,0,none⟩) n n)
  simpa using this
 have HS4:Hid (IOwn (W3.setCell ⟨X,4,none⟩ (.slice (some ⟨S,0,none⟩) n n)) (X+1) S n n (fun _=>0)):=q2.keep (heap_setCell_other _ ⟨X,4,none⟩ _ _ (by show ¬ S=X; omega))
 have HB4:Hid (Below w.heap.size w (W3.setCell ⟨X,4,none⟩ (.slice (some ⟨S,0,none⟩) n n))):=Below.setCell (p:=⟨X,4,none⟩) q3 (by show w.heap.size≤X; omega) _
 have hpt:=HPT.out (W3.setCell ⟨X,4,none⟩ (.slice (some ⟨S,0,none⟩) n n)) S (X+1) HB4.out HS4.out (block_lt HO4.out)
 obtain⟨u0,u1,u2,u3,u4,uf,ul⟩:=redI_cells q1
 have uf4:=uf 4
 clear hS q0 q1 q2 q3 HX3 HO3 HB3 uf
 go_wp2_with fail
 refine hpt.mono ?_
 rintro e w5 ⟨g,c',rfl,⟨A,G,C,hR5,hl5⟩,hB5⟩
 have HI:Hid (RedI w w5 (X+1) X g K n S W H D c RR PR A G C 0):=⟨hR5,bnext HB4.out hB5,(hB5.block _ (block_lt HX4.out)).trans HX4.out,(hB5.block _ (block_lt HO4.out)).trans HO4.out⟩
 have HL5:=hid_of hl5
 clear hR5 hl5 hB5 hpt u0 u1 u2 u3 u4 uf4 ul HX4 HO4 HS4 HB4 hmk HPT
 go_wp2_with fail
 go_loopw [17,51] (fun v i w'=>∃ p:Nat,p≤K∧i=.int .i64 (p:Int)∧v=.int .i64 (OF p:Int)∧Hid (RedI w w' (X+1) X g K n S W H D c RR PR A G C p)∧Hid (∀ q,q < p→∀ j,j < chL lace W H q→bts t (OF q+j * (rb (cwL lace W H q * N) D+1))≤4)) (fun _ i _=>K - (intOf i).toNat)
 case atStart=>exact⟨0,Nat.zero_le _,rfl,by rw [HO0.out]; rfl,HI,fun q hq=>absurd hq (Nat.not_lt_zero q)⟩
 case round=>
  clear HI
  obtain⟨p,hp,rfl,rfl,hI,hkk⟩:=hrel
  by_cases hlt:p < K
  ·have HRDP:=hid_of (HRD.out p hlt)
   have hlb:=fun V=>HLB.out p V hlt
   have hz:=HZ.out p
   have hz0:=HZ0.out p
   have hof:=HOF.out p
   have hoe:OF (p+1)≤t.size:=by rw [HEND.out]; exact HMON.out _ _ (by omega)
   have hrx:=HRX.out p
   have hpx:=HPX.out p
   have HKN:Hid (∀ b:Prop,(b↔∀ j,j < chL lace W H p→bts t (OF p+j * (rb (cwL lace W H p * N) D+1))≤4)→(b→∀ q,q < p+1→∀ j,j < chL lace W H q→bts t (OF q+j * (rb (cwL lace W H q * N) D+1))≤4)∧(¬ b→¬ KR)):=fun b hb=>⟨fun h q hq j hj=>by
    rcases Nat.lt_succ_iff_lt_or_eq.mp hq with e | e
    ·exact hkk.out q e j hj
    ·subst e
     exact hb.mp h j hj,fun h hk=>h (hb.mpr fun j hj=>HKR.out.mp hk p hlt j hj)⟩
   obtain⟨Q,hQ⟩:∃ Q,Q=chL lace W H p * (rb (cwL lace W H p * N) D+1):=⟨_,rfl⟩
   obtain⟨m,hm⟩:∃ m,m=cwL lace W H p * chL lace W H p * N:=⟨_,rfl⟩
   rw[← hQ] at hlb hof
   rw[← hm] at HRDP hz hz0 hrx hpx
   generalize chL lace W H p=ch at *
   generalize cwL lace W H p=cw at *
   obtain⟨hR,hBw,hbz,hbx⟩:=hI.out
   have hrow:=hR.2.2.1 p hlt
   obtain⟨c0,c1,c2,c3,c4⟩:=hR.at_ p hlt
   have lg:=hR.lt
   have eq0:redQ RR PR p p=PR p:=if_neg (Nat.lt_irrefl _)
   rw[eq0,hpx] at c0 c1 c2 c3 c4 hrow
   have b5:=bstart wr (.cells #[.int .i64 (cw:Int),.int .i64 (ch:Int),.int .i64 c,.int .i64 (D:Int),.slice (A p) m (C p)] 26)
   have BX5:Hid ((wr.alloc (.cells #[.int .i64 (cw:Int),.int .i64 (ch:Int),.int .i64 c,.int .i64 (D:Int),.slice (A p) m (C p)] 26)).heap[wr.heap.size]?=some (.cells #[.int .i64 (cw:Int),.int .i64 (ch:Int),.int .i64 c,.int .i64 (D:Int),.slice (A p) m (C p)] 26 (0,0))):=heap_alloc_new wr _
   have HI5:=hid_of (hI.out.called b5)
   have HROW:=hid_of (hrow.keep (fun hn=>b5.block _ (hrow.lt hn).1))
   have HGY:Hid (0 < m→G p < wr.heap.size):=fun hz=>(hrow.lt hz).1
   have HPXX:=hid_of hpx
   have HRXX:=hid_of hrx
   have HOFX:=hid_of hof
   have HZX:=hid_of hz
   have HZ0X:=hid_of hz0
   have hop:OF p≤t.size:=by omega
   have hopi:(OF p:Int)≤(t.size:Int):=by omega
   have hob:OF p+Q≤t.size:=by omega
   clear hQ hm hz hz0 hof hrx hpx hrow hR hBw hbz hbx b5 eq0 hoe
   go_wp2_with fail
   generalize wr.alloc (.cells #[.int .i64 (cw:Int),.int .i64 (ch:Int),.int .i64 c,.int .i64 (D:Int),.slice (A p) m (C p)] 26)=w6 at BX5 HI5 HROW ⊢
   generalize wr.heap.size=Y at BX5 HGY ⊢
   obtain⟨S',hS1,hS0⟩:∃ S',(0 < m→S'=G p)∧(m=0→w6.heap.size≤S'):=by
    rcases Nat.eq_zero_or_pos m with z | z
    ·exact⟨w6.heap.size,fun h=>by omega,fun _=>Nat.le_refl _⟩
    ·exact⟨G p,fun _=>rfl,fun h=>by omega⟩
   have HS1:=hid_of hS1
   have HS0':=hid_of hS0
   obtain⟨tx,htx⟩:∃ tx,tx=t.extract (OF p) t.size:=⟨_,rfl⟩
   rw[← htx] at HRDP
   have HTX:=hid_of htx
   have HOU:=hid_of hob
   obtain⟨o,ho⟩:∃ o,o=OF p:=⟨_,rfl⟩
   rw[← ho] at hop hopi htx HOFX ⊢
   have rtx:t.extract o t.size=tx:=htx.symm
   have HOE:=hid_of ho
   have hrd:=HRDP.out (A p) (C p) (X+1) S' (PR p).f w6.drew (by
    rcases Nat.eq_zero_or_pos ch with z | z
    ·exact .inl z
    ·have hmz:=HZX.out z
     rcases HROW.out.2.2 with q | ⟨q1,q2⟩
     ·exact absurd q (by show ¬ m=0; omega)
     ·refine .inr ⟨by rw [q1,HS1.out hmz],?_⟩
      rw[HS1.out hmz,HPXX.out]
      exact q2.drew) HROW.out.1 HROW.out.2.1
   clear hS1 hS0 htx c0 c1 c2 c3 c4 lg ho hob HRDP
   refine wp_region_held (S:=fun u=>u.cell? ⟨Y,0,none⟩=some (.int .i64 (cw:Int))∧u.cell? ⟨Y,1,none⟩=some (.int .i64 (ch:Int))∧u.cell? ⟨Y,2,none⟩=some (.int .i64 c)∧u.cell? ⟨Y,3,none⟩=some (.int .i64 (D:Int))∧u.cell? ⟨Y,4,none⟩=some (.slice (A p) m (C p))∧Y < u.heap.size) (by kernel_rfl) ?_
   show wpAnyH _ _ _ _ _ _ _ _ w6.drew
   have HS0:=tel_cells (W:=w6.drew) BX5.out
   refine wpAnyH_take (i:=0) (v:=.agg #[.int .i64 (cw:Int),.int .i64 (ch:Int),.int .i64 c,.int .i64 (D:Int),.slice (A p) m (C p)]) rfl (by kernel_rfl) (by kernel_rfl) (by kernel_rfl) (fun _ _ _ h=>h) (Or.inl ⟨by rfl,?_⟩) HS0 ?_
   ·intro w' hS
    obtain⟨s0,s1,s2,s3,s4,s5⟩:=hS
    go_simp
   simp only [Act.put,List.getElem_toArray,List.getElem_cons_zero,List.setIfInBounds_toArray,List.set_cons_zero,List.set_cons_succ]
   refine wpAnyH_take (i:=1) (v:=.string t) rfl (by kernel_rfl) (by kernel_rfl) (by kernel_rfl) (fun _ _ _ h=>h) (Or.inl ⟨by rfl,?_⟩) HS0 ?_
   ·intro w' hS
    obtain⟨s0,s1,s2,s3,s4,s5⟩:=hS
    go_simp
   simp only [Act.put,List.getElem_toArray,List.getElem_cons_zero,List.getElem_cons_succ,List.setIfInBounds_toArray,List.set_cons_zero,List.set_cons_succ]
   refine wpAnyH_take (i:=2) (v:=.int .i64 (o:Int)) rfl (by kernel_rfl) (by kernel_rfl) (by kernel_rfl) (fun _ _ _ h=>h) (Or.inl ⟨by rfl,?_⟩) HS0 ?_
   ·intro w' hS
    obtain⟨s0,s1,s2,s3,s4,s5⟩:=hS
    go_simp
   simp only [Act.put,List.getElem_toArray,List.getElem_cons_zero,List.getElem_cons_succ,List.setIfInBounds_toArray,List.set_cons_zero,List.set_cons_succ]
   refine wpAnyH_take (i:=3) (v:=.string tx) rfl (by kernel_rfl) (by kernel_rfl) (by kernel_rfl) (fun _ _ _ h=>h) (Or.inl ⟨by rfl,?_⟩) HS0 ?_
   ·intro w' hS
    obtain⟨s0,s1,s2,s3,s4,s5⟩:=hS
    go_simp
   simp only [Act.put,List.getElem_toArray,List.getElem_cons_zero,List.getElem_cons_succ,List.setIfInBounds_toArray,List.set_cons_zero,List.set_cons_succ]
   refine wpAnyH_ready (rs:=[4]) (by kernel_rfl) (by simp) ?_
   refine AllReadyH.cons rfl (fun K9 hK=>?_) AllReadyH.nil
   refine if_wanted (wanted_none rfl) ?_
   simp only [List.getElem_toArray,List.getElem_cons_zero,List.getElem_cons_succ]
   go_simp
   refine hrd.mono ?_
   rintro e w7 ⟨b,rfl,hb,hO7,hB7⟩
   have hB7':But S' w6 w7:=⟨hB7.1,hB7.2,hB7.3,hB7.4,hB7.5⟩
   have hSX:X+1≤S'∨w6.heap.size≤S':=by
    rcases Nat.eq_zero_or_pos m with z | z
    ·exact .inr (HS0'.out z)
    ·rw[HS1.out z]
     exact .inl (HROW.out.lt z).2
   have hYS:Y≠S':=by
    have:=block_lt BX5.out
    rcases Nat.eq_zero_or_pos m with z | z
    ·have:=HS0'.out z
     omega
    ·have:=HGY.out z
     rw[HS1.out z]
     omega
   have lz6:=block_lt HI5.out.2.2.1
   have BZ7:=hid_of ((hB7'.block _ lz6 (by omega)).trans HI5.out.2.2.1)
   have BX7:=hid_of ((hB7'.block _ (block_lt BX5.out) hYS).trans BX5.out)
   have HN7:Hid (b=true→RedI w w7 (X+1) X g K n S W H D c RR PR A G C (p+1)):=fun hbt=>HI5.out.next hlt (Nat.lt_succ_self X) hwX hB7' (by rw [HPXX.out]; exact HS1.out) (by rw [HPXX.out]; exact HS0'.out) (by rw [HPXX.out]; exact HRXX.out) (by
    rw[HPXX.out]
    intro hmz
    rcases hO7 hbt with z | z
    ·have:=HZ0X.out z
     exact absurd hmz (by show ¬ 0 < m; omega)
    ·exact z)
   have HB7:Hid (Below w.heap.size w w7):=hB7'.below HI5.out.2.1 (by omega) HI5.out.2.1.size
   have HK7:=hid_of (HKN.out (b=true) hb)
   clear hb hO7 hB7 hB7' hrd
   refine hK.out _ _ (tel_cells BX7.out) (fun HS1=>?_)
   clear hK K9 HS0
   refine wpAnyH_take (i:=5) (v:=.bool (!b)) rfl (by kernel_rfl) (by kernel_rfl) (by kernel_rfl) (fun _ _ _ h=>h) (Or.inl ⟨by rfl,?_⟩) HS1 ?_
   ·intro w' hS
    obtain⟨s0,s1,s2,s3,s4,s5⟩:=hS
    go_simp
   simp only [Act.put,List.getElem_toArray,List.getElem_cons_zero,List.getElem_cons_succ,List.setIfInBounds_toArray,List.set_cons_zero,List.set_cons_succ]
   refine wpAnyH_done (by kernel_rfl) ?_ _
   cases b with
   | false=>
    obtain⟨z0,z1,z2,z3,z4,zf,lz⟩:=redI_cells BZ7.out
    have zf0:=zf 0
    have zf1:=zf 1
    have zf2:=zf 2
    have zf3:=zf 3
    have zf4:=zf 4
    clear zf
    go_wp2_with fail
    refine bodyPost_ret (v:=.tuple #[.agg #[.int .i64 0,.int .i64 0,.int .i64 0,.int .i64 0,.slice none 0 0],.int .i64 2]) ?_ rfl (.inr ⟨HK7.out.2 (by simp),rfl,?_⟩)
    ·simp[results,Tryd.results16,go_sem, *]
    ·iterate 5 refine Below.setCell ?_ (by exact Nat.le_refl _) _
     exact HB7.out
   | true=>
    have y0:w7.cell? ⟨Y,0,none⟩=some (.int .i64 (cw:Int)):=(cell_of_block BX7.out 0).trans rfl
    have y1:w7.cell? ⟨Y,1,none⟩=some (.int .i64 (ch:Int)):=(cell_of_block BX7.out 1).trans rfl
    have ly:=block_lt BX7.out
    go_wp2_with fail
    refine (hlb _).mono ?_
    rintro e w8 ⟨rfl,hB8⟩
    have HN8:=hid_of ((HN7.out trivial).called hB8)
    have HKX:=hid_of (HK7.out.1 trivial)
    clear hB8 hlb y0 y1 ly HN7 HK7
    have woq:IntKind.i64.wrap ((o:Int)+(Q:Int))=(o:Int)+(Q:Int):=by rw [IntKind.wrap_i64]; have:=HOU.out; have:=HOE.out; omega
    go_wp2_with fail
    go_roundw
    case rel=>exact⟨p+1,by omega,by go_num,by rw [HOFX.out]; go_num,HN8,HKX⟩
    case measure=>simp [intOf]; omega
  ·obtain rfl:p=K:=by omega
   obtain⟨hR,hBw,hbz,hbx⟩:=hI.out
   have HKK:Hid KR:=HKR.out.mpr hkk.out
   obtain⟨x0,x1,x2,x3,x4,-,lx⟩:=redI_cells hbx
   obtain⟨z0,z1,z2,z3,z4,zf,lz⟩:=redI_cells hbz
   have zf0:=zf 0
   have zf1:=zf 1
   have zf2:=zf 2
   have zf3:=zf 3
   have zf4:=zf 4
   have hXz:¬ X=w.heap.size:=by omega
   have hzX:¬ w.heap.size=X:=by omega
   have HBW:=hid_of hBw
   have HRR:=hid_of hR
   have HBZ:=hid_of hbz
   have HBX:=hid_of hbx
   cases lace with
   | false=>
    obtain⟨hK1,hRA,hn0⟩:=HR1.out rfl
    obtain⟨ha0,hc0⟩:=HL5.out rfl
    have hrow:=hR.2.2.1 0 (by omega)
    rw[show redQ RR PR p 0=RR 0 from if_pos (by omega),ha0,hc0,hn0] at hrow
    have HSL:Hid (∃ G,G=S∧IOwn wr (X+1) G n n (RR 0).f):=by
     rcases hrow.2.2 with q | ⟨q,q2⟩
     ·omega
     ·cases q
      exact⟨_,rfl,q2⟩
    have HRA:=hid_of hRA
    clear hR hBw hbz hbx zf hrow ha0 hc0 hn0 hK1 hRA HRR
    go_wp2_with fail
    refine bodyPost_ret (v:=.tuple #[.agg #[.int .i64 (W:Int),.int .i64 (H:Int),.int .i64 c,.int .i64 (D:Int),.slice (some ⟨S,0,none⟩) n n],.int .i64 0]) ?_ rfl (.inl ⟨HKK.out,some ⟨S,0,none⟩,n,?_,?_,?_⟩)
    ·simp[results,Tryd.results16,go_sem, *]
    ·rw[HRA.out]
    ·rw[HRA.out]
     obtain⟨G',rfl,hO⟩:=HSL.out
     refine ((hO.mono (by omega)).keep ?_).sl
     iterate 5 rw [heap_setCell_other _ _ _ _ (by show ¬ G'=w.heap.size; omega)]
    ·iterate 5 refine Below.setCell ?_ (by exact Nat.le_refl _) _
     exact HBW.out
   | true=>
    obtain⟨hK7,hfr,hRA⟩:=HRL.out rfl
    have hcame:RCame wr (some ⟨g,0,none⟩) 7 RR:=by
     refine RCame.congr (ROwn.came ⟨A,G,C,by rw [← hK7]; exact hR⟩) (fun j hj=>?_)
     rw[show redQ RR PR p j=RR j from if_pos (by omega)]
     exact⟨rfl,rfl,rfl,rfl,rfl,fun _ _=>rfl⟩
    have hfp:=HF.out (some ⟨g,0,none⟩) c' RR wr hcame (fun j hj=>HRN.out j (by omega)) hfr (HG.out.called hBw)
    obtain⟨J,hJ⟩:∃ J,J=joinR (W:Int) (H:Int) RR:=⟨_,rfl⟩
    rw[← hJ] at hfp hRA
    have HRA:=hid_of hRA
    subst hK7
    clear hR hBw hbz hbx zf hfr hRA hcame hJ HRR zf0 zf1 zf2 zf3 zf4 z0 z1 z2 z3 z4 lz x0 x1 x2 x3 x4 lx
    go_wp2_with fail
    refine hfp.mono ?_
    rintro e w7 ⟨a',c2,rfl,hSL,hc1,hc2,hB7⟩
    have HB7:=hid_of (bnext HBW.out hB7)
    have BZ7:=hid_of ((hB7.block _ (block_lt HBZ.out)).trans HBZ.out)
    have BX7:=hid_of ((hB7.block _ (block_lt HBX.out)).trans HBX.out)
    have HXW:Hid (X < wr.heap.size):=block_lt HBX.out
    have HSL:=hid_of hSL
    obtain⟨x0,x1,x2,x3,x4,xf,lx⟩:=redI_cells BX7.out
    obtain⟨z0,z1,z2,z3,z4,zf,lz⟩:=redI_cells BZ7.out
    have xf0:=xf 0
    have xf1:=xf 1
    have xf2:=xf 2
    have xf3:=xf 3
    have xf4:=xf 4
    have zf0:=zf 0
    have zf1:=zf 1
    have zf2:=zf 2
    have zf3:=zf 3
    have zf4:=zf 4
    clear hSL hc1 hc2 hB7 xf zf hfp
    go_wp2_with fail
    refine bodyPost_ret (v:=.tuple #[.agg #[.int .i64 J.x0,.int .i64 J.x1,.int .i64 J.x2,.int .i64 J.x3,.slice a' J.n c2],.int .i64 0]) ?_ rfl (.inl ⟨HKK.out,a',c2,?_,?_,?_⟩)
    ·simp[results,Tryd.results16,go_sem, *]
    ·rw[HRA.out]
    ·rw[HRA.out]
     rcases HSL.out with q | ⟨G',q1,q2⟩
     ·exact .inl q
     ·refine .inr ⟨G',q1,(q2.mono (by have:=HBW.out.size; omega)).keep ?_⟩
      have hb:=q2.base_le
      have hx:=HXW.out
      iterate 5 rw [heap_setCell_other _ _ _ _ (by show ¬ G'=w.heap.size; omega)]
      iterate 5 rw [heap_setCell_other _ _ _ _ (by show ¬ G'=X; omega)]
    ·iterate 5 refine Below.setCell ?_ (by exact Nat.le_refl _) _
     iterate 5 refine Below.setCell ?_ (by show w.heap.size≤X; omega) _
     exact HB7.out
set_option maxHeartbeats 1600000 in
theorem implScanRead_out (t:ByteArray) (W H c d:Int) (lace:Bool) (w:World) (_ht:t.size≤1048576) (h1:(Lit.int .i64 W).wf=true) (h2:(Lit.int .i64 H).wf=true) (h3:(Lit.int .i64 c).wf=true) (h4:(Lit.int .i64 d).wf=true) (hG:GridG w) (hno:¬ SizeOk t W H c d lace):
  Calls Tryd.prog 16 #[.string t,.int .i64 W,.int .i64 H,.int .i64 c,.int .i64 d,.bool lace] w fun e w'=>e=.returned (.tuple #[.agg #[.int .i64 0,.int .i64 0,.int .i64 0,.int .i64 0,.slice none 0 0],.int .i64 1])∧Below w.heap.size w w':=by
 have hsb:=scanBytes_answer W H c d lace (w.alloc (.cells #[.int .i64 0,.int .i64 0,.int .i64 0,.int .i64 0,.slice none 0 0] 26)) h1 h2 h3 h4 (hG.called (bstart w (.cells #[.int .i64 0,.int .i64 0,.int .i64 0,.int .i64 0,.slice none 0 0] 26)))
 have hor:scanB W H c d lace=0∨¬ (t.size:Int)=scanB W H c d lace:=by
  by_cases hr:SideR W∧SideR H∧DepthR c d
  ·exact .inr fun e=>hno ⟨hr,e⟩
  ·refine .inl ?_
   unfold scanB
   rw[if_neg hr]
 have HX0:Hid ((w.alloc (.cells #[.int .i64 0,.int .i64 0,.int .i64 0,.int .i64 0,.slice none 0 0] 26)).heap[w.heap.size]?=some (.cells #[.int .i64 0,.int .i64 0,.int .i64 0,.int .i64 0,.slice none 0 0] 26 (0,0))):=heap_alloc_new w _
 have HB0:=hid_of (bstart w (.cells #[.int .i64 0,.int .i64 0,.int .i64 0,.int .i64 0,.slice none 0 0] 26))
 have HOR:=hid_of hor
 clear hno hor hG
 generalize scanB W H c d lace=sb at *
 go_enter Tryd.func16,Tryd.ntmps16
 go_wp2_with fail
 generalize w.alloc (.cells #[.int .i64 0,.int .i64 0,.int .i64 0,.int .i64 0,.slice none 0 0] 26)=W0 at HX0 HB0 hsb ⊢
 refine hsb.mono ?_
 rintro e w1 ⟨rfl,hB1⟩
 have HX1:=hid_of ((hB1.block _ (block_lt HX0.out)).trans HX0.out)
 have HB1:=hid_of (bnext HB0.out hB1)
 clear hB1 HX0 HB0 hsb
 obtain⟨z0,z1,z2,z3,z4,zf,lz⟩:=redI_cells HX1.out
 have zf0:=zf 0
 have zf1:=zf 1
 have zf2:=zf 2
 have zf3:=zf 3
 have zf4:=zf 4
 clear zf
 by_cases hz:sb=0
 ·have e1:(sb == 0)=true:=beq_iff_eq.mpr hz
  have e2:decide (sb=0)=true:=decide_eq_true hz
  go_wp2_with fail
  refine bodyPost_ret (v:=.tuple #[.agg #[.int .i64 0,.int .i64 0,.int .i64 0,.int .i64 0,.slice none 0 0],.int .i64 1]) ?_ rfl ⟨rfl,?_⟩
  ·simp[results,Tryd.results16,go_sem, *]
  ·iterate 5 refine Below.setCell ?_ (by exact Nat.le_refl _) _
   exact HB1.out
 ·have e1:(sb == 0)=false:=beq_eq_false_iff_ne.mpr hz
  have e2:decide (sb=0)=false:=decide_eq_false hz
  have hne:¬ (t.size:Int)=sb:=HOR.out.resolve_left hz
  have e3:((t.size:Int) == sb)=false:=beq_eq_false_iff_ne.mpr hne
  have e4:decide ((t.size:Int)=sb)=false:=decide_eq_false hne
  clear hz hne
  go_wp2_with fail
  refine bodyPost_ret (v:=.tuple #[.agg #[.int .i64 0,.int .i64 0,.int .i64 0,.int .i64 0,.slice none 0 0],.int .i64 1]) ?_ rfl ⟨rfl,?_⟩
  ·simp[results,Tryd.results16,go_sem, *]
  ·iterate 5 refine Below.setCell ?_ (by exact Nat.le_refl _) _
   exact HB1.out
theorem scanRead_answer:ScanReadAnswer:=by
 intro t W H c d lace w ht h1 h2 h3 h4 hG
 have hin:SizeOk t W H c d lace→Calls Tryd.prog 16 #[.string t,.int .i64 W,.int .i64 H,.int .i64 c,.int .i64 d,.bool lace] w (RdPost t lace W.toNat H.toNat (chan c).toNat d.toNat c w)∧d=((d.toNat:Nat):Int):=fun hok=>by
  obtain⟨⟨⟨a1,a2⟩,⟨b1,b2⟩,hd⟩,hs⟩:=hok
  have h5:=five_range (depth_five hd)
  have hcr:=chan_range c
  obtain⟨W,rfl⟩:=Int.eq_ofNat_of_zero_le (show 0≤W by omega)
  obtain⟨H,rfl⟩:=Int.eq_ofNat_of_zero_le (show 0≤H by omega)
  obtain⟨N,hN⟩:=Int.eq_ofNat_of_zero_le hcr.1
  obtain⟨D,rfl⟩:=Int.eq_ofNat_of_zero_le (show 0≤d by omega)
  rw[hN,Int.toNat_natCast,Int.toNat_natCast,Int.toNat_natCast,Int.toNat_natCast]
  rw[scanB_in (W:=W) (H:=H) (N:=N) (D:=D) ⟨by omega,by omega⟩ ⟨by omega,by omega⟩ hd hN rfl] at hs
  exact⟨implScanRead_in W H N D c lace t w ⟨by omega,by omega⟩ ⟨by omega,by omega⟩ hd hN (by omega) hG,rfl⟩
 refine⟨fun hok hk=>?_,fun hok hk=>?_,fun hno=>?_⟩
 ·obtain⟨hc,hd⟩:=hin hok
  refine hc.mono ?_
  rintro e w' (⟨-,a',c',rfl,q⟩ | ⟨q,-⟩)
  ·rw[← hd] at q ⊢
   exact⟨a',c',rfl,q⟩
  ·exact absurd hk q
 ·obtain⟨hc,hd⟩:=hin hok
  refine hc.mono ?_
  rintro e w' (⟨q,-⟩ | ⟨-,rfl,q⟩)
  ·exact absurd q hk
  ·exact⟨none,0,rfl,q⟩
 ·refine (implScanRead_out t W H c d lace w ht h1 h2 h3 h4 hG hno).mono ?_
  rintro e w' ⟨rfl,q⟩
  exact⟨none,0,rfl,q⟩
end Go.Proofs.YtcbbcadfolgioaaDoor
