/-
  Texts of the proof, put together.
-/
import Derived.Test.YtcbbcadfolgioaaDoorPf10
import Derived.Test.YtcbbcadfolgioaaDoorPf22
namespace Go.Proofs.YtcbbcadfolgioaaDoor
section
open Go.RowKit Go.Joins RastMath PassMath
abbrev rasO:Value:=.agg #[.int .i64 0,.int .i64 0,.int .i64 0,.int .i64 0,.slice none 0 0]
theorem implFrom_no0 (W H:Int) (a:Option Addr) (m c:Nat) (w:World) (hno:¬ (SideR W∧SideR H∧m=7)):
  Calls Tryd.prog 12 #[.int .i64 W,.int .i64 H,.slice a m c] w fun e w'=>e=.returned (.tuple #[rasO,.bool false])∧Below w.heap.size w w':=by
 have h1:=isSide_any W
 have h2:=isSide_any H
 have HX:Hid ((w.alloc (.cells #[.int .i64 0,.int .i64 0,.int .i64 0,.int .i64 0,.slice none 0 0] 26)).heap[w.heap.size]?=some (.cells #[.int .i64 0,.int .i64 0,.int .i64 0,.int .i64 0,.slice none 0 0] 26 (0,0))):=heap_alloc_new w _
 have HB:=hid_of (bstart w (.cells #[.int .i64 0,.int .i64 0,.int .i64 0,.int .i64 0,.slice none 0 0] 26))
 have hz:=ras_value HX.out
 have hf:=unfrozen_of_block HX.out
 by_cases hW:SideR W
 ·rw[decide_eq_true hW] at h1
  by_cases hH:SideR H
  ·rw[decide_eq_true hH] at h2
   have bn:((m:Int) != 7)=true:=by
    have:¬ m=7:=fun e=>hno ⟨hW,hH,e⟩
    simp
    omega
   clear hno hW hH
   go_enter Tryd.func12,Tryd.ntmps12
   go_wp2_with fail
   refine (h1 _).mono ?_
   rintro e w1 ⟨rfl,rfl⟩
   go_wp2_with fail
   refine (h2 _).mono ?_
   rintro e w1 ⟨rfl,rfl⟩
   go_wp2_with fail
   refine bodyPost_ret (v:=.tuple #[rasO,.bool false]) ?_ rfl ⟨rfl,?_⟩
   ·simp[results,Tryd.results12,go_sem, *]
   ·exact HB.out
  ·rw[decide_eq_false hH] at h2
   clear hno hW hH
   go_enter Tryd.func12,Tryd.ntmps12
   go_wp2_with fail
   refine (h1 _).mono ?_
   rintro e w1 ⟨rfl,rfl⟩
   go_wp2_with fail
   refine (h2 _).mono ?_
   rintro e w1 ⟨rfl,rfl⟩
   go_wp2_with fail
   refine bodyPost_ret (v:=.tuple #[rasO,.bool false]) ?_ rfl ⟨rfl,?_⟩
   ·simp[results,Tryd.results12,go_sem, *]
   ·exact HB.out
 ·rw[decide_eq_false hW] at h1
  clear hno hW
  go_enter Tryd.func12,Tryd.ntmps12
  go_wp2_with fail
  refine (h1 _).mono ?_
  rintro e w1 ⟨rfl,rfl⟩
  go_wp2_with fail
  refine bodyPost_ret (v:=.tuple #[rasO,.bool false]) ?_ rfl ⟨rfl,?_⟩
  ·simp[results,Tryd.results12,go_sem, *]
  ·exact HB.out
def FromPostI (W H:Nat) (R:Nat→Ras) (w:World) (e:Ending) (w':World):Prop:=
 ((FromR (W:Int) (H:Int) 7 R∧∃ S,e=.returned (.tuple #[rasA (joinR (W:Int) (H:Int) R) (some ⟨S,0,none⟩) (joinR (W:Int) (H:Int) R).n,.bool true])∧IOwn w' w.heap.size S (joinR (W:Int) (H:Int) R).n (joinR (W:Int) (H:Int) R).n (joinR (W:Int) (H:Int) R).f∧(joinR (W:Int) (H:Int) R).n≤2304)∨(¬ FromR (W:Int) (H:Int) 7 R∧e=.returned (.tuple #[rasO,.bool false])))∧Below w.heap.size w w'
theorem FrmI.put {w w' w2:World} {O S T:Nat} {x0 x1 x2 x3:Int} {J:Nat→Int} {W H N p:Nat} {q:Ras} {h:Nat→Int} (hF:FrmI w w' O S T x0 x1 x2 x3 J (fun m=>pasM W N m < p)) (hOS:O < S) (hh:∀ i,i < T→pasM W N i < p→h i=J i) (hT:T=W * H * N) (hO:IOwn w2 (w.heap.size+1) S T T (putF W H N p q.f h q.n)) (hb:Below S w' w2) (hJ:∀ i,i < T→pasM W N i=p→idxM W H N i < q.n∧q.f (idxM W H N i)=J i):FrmI w w2 O S T x0 x1 x2 x3 J (fun m=>pasM W N m < p+1):=by
 obtain⟨h1,h2,h3,h4,_,h5⟩:=hF
 have:=hT
 refine⟨(hb.block _ (by omega)).trans h1,(hb.block _ hOS).trans h2,h3,h4,⟨_,hO,fun i hi hd=>?_⟩,h5.trans (hb.mono (by omega))⟩
 unfold putF
 by_cases e:pasM W N i=p
 ·rw[if_pos ⟨e,(hJ i hi e).1⟩]
  exact (hJ i hi e).2
 ·rw[if_neg (fun c=>e c.1)]
  exact hh i hi (by omega)
set_option maxRecDepth 100000 in
set_option maxHeartbeats 6400000 in
theorem implFrom_in (W H:Nat) (g off c:Nat) (A:Nat→Option Addr) (C:Nat→Nat) (R:Nat→Ras) (w:World) (hW:1≤W∧W≤24) (hH:1≤H∧H≤24) (hg:g < w.heap.size) (hc:∀ j,j < 7→RasAt w g (off+j * 5) (R j) (A j) (C j)∧Came w (A j) (R j).n (R j).f∧(R j).n≤C j∧C j≤maxLen) (hRn:∀ j,j < 7→(R j).n≤1048576) (hG:GridG w):
  Calls Tryd.prog 12 #[.int .i64 (W:Int),.int .i64 (H:Int),.slice (some ⟨g,off,none⟩) 7 c] w (FromPostI W H R w):=by
 have h1:=isSide_any (W:Int)
 have h2:=isSide_any (H:Int)
 rw[decide_eq_true (show SideR (W:Int) from ⟨by omega,by omega⟩)] at h1
 rw[decide_eq_true (show SideR (H:Int) from ⟨by omega,by omega⟩)] at h2
 have hcr:=chan_range (R 0).x2
 obtain⟨N,hN⟩:=Int.eq_ofNat_of_zero_le hcr.1
 have hN4:N≤4:=by have:=hcr.2; omega
 obtain⟨hjoin,hfrom⟩:=from_fits (R:=R) hW hH hN
 have HPP:Hid (∀ p,p < 7→∀ (S B:Nat) (h:Nat→Int) (V:World),GridG V→IOwn V B S (W * H * N) (W * H * N) h→Came V (A p) (R p).n (R p).f→(∀ g off,A p=some ⟨g,off,none⟩→0 < (R p).n→g < S)→
   Calls Tryd.prog 40 #[.agg #[.int .i64 (W:Int),.int .i64 (H:Int),.int .i64 (R 0).x2,.int .i64 (R 0).x3,.slice (some ⟨S,0,none⟩) (W * H * N) (W * H * N)],rasA (R p) (A p) (C p),.int .i64 (p:Int)] V (PutPost W H N (R 0).x2 (R 0).x3 p S B h (R p) V)):=
  fun p hp S B h V hV hO hC hold=>putPass_any W H N p _ _ S B h (R p) (A p) (C p) V hW hH hN hN4 hp hV hO hC (hRn p hp) hold
 have HJJ:Hid (∀ p,p < 7→FitsP W H N (R 0).x2 (R 0).x3 p (R p)→∀ i,i < W * H * N→pasM W N i=p→idxM W H N i < (R p).n∧(R p).f (idxM W H N i)=joinF W H N (fun p k=>(R p).f k) i):=fun p hp hf i hi e=>by
  have hN1:1≤N:=by
   rcases Nat.eq_zero_or_pos N with q | q
   ·rw[q,Nat.mul_zero] at hi; omega
   ·exact q
  have q:=(idx_back hN1 hW hH.2 hi).2.1
  rw[e] at q
  refine⟨by rw [hf.2.2.2.2]; exact q,?_⟩
  unfold joinF
  rw[e]
 have hTle:W * H * N≤2304:=by
  have h1:=Nat.mul_le_mul hW.2 hH.2
  have h2:=Nat.mul_le_mul h1 hN4
  exact Nat.le_trans h2 (by omega)
 obtain⟨s,hs⟩:∃ s,s=W * N:=⟨_,rfl⟩
 have hsb:s≤96:=by rw [hs]; exact Nat.mul_le_mul hW.2 hN4
 have hrs:=fun (a:Option Addr) (n cap:Nat) (V:World)=>rowSize_any (W:Int) (H:Int) (R 0).x2 (R 0).x3 a n cap (s:Int) V (by omega) (by omega) (by rw [hN,hs]; simp)
 have m1:(H:Int) * (s:Int)=((W * H * N:Nat):Int):=by
  rw[hs,Nat.mul_comm W H,Nat.mul_assoc]
  simp
 unfold FromPostI
 rw[hjoin]
 obtain⟨J,hJ⟩:∃ J,J=joinF W H N (fun p k=>(R p).f k):=⟨_,rfl⟩
 obtain⟨T,hT⟩:∃ T,T=W * H * N:=⟨_,rfl⟩
 rw[← hJ,← hT] at hfrom HJJ ⊢
 rw[← hT] at HPP hTle m1
 have HTT:=hid_of hT
 have HFR:=hid_of hfrom
 have HC:=hid_of hc
 have HG:=hid_of hG
 have HSF:Hid (∀ p,p < 7→∀ g off,A p=some ⟨g,off,none⟩→0 < (R p).n→g < w.heap.size):=fun p hp g off e hn=>by
  rcases (hc p hp).2.1 with q | ⟨g',off',e',hl,_⟩
  ·omega
  ·rw[e] at e'
   cases e'
   exact hl
 generalize FromR (W:Int) (H:Int) 7 R=FR at *
 have hmk:=fun V=>make_ints V T (by omega)
 have HX0:Hid ((w.alloc (.cells #[.int .i64 0,.int .i64 0,.int .i64 0,.int .i64 0,.slice none 0 0] 26)).heap[w.heap.size]?=some (.cells #[.int .i64 0,.int .i64 0,.int .i64 0,.int .i64 0,.slice none 0 0] 26 (0,0))):=heap_alloc_new w _
 have HB0:=hid_of (bstart w (.cells #[.int .i64 0,.int .i64 0,.int .i64 0,.int .i64 0,.slice none 0 0] 26))
 obtain⟨_,_,c2,c3,_⟩:=(hc 0 (by omega)).1
 rw[Nat.zero_mul,Nat.add_zero] at c2 c3
 clear hjoin hfrom hc hG hs hJ hT hN hcr hRn
 obtain⟨X2,hX2⟩:∃ X2,X2=(R 0).x2:=⟨_,rfl⟩
 obtain⟨X3,hX3⟩:∃ X3,X3=(R 0).x3:=⟨_,rfl⟩
 rw[← hX2,← hX3] at HPP HJJ hrs HFR ⊢
 rw[← hX2] at c2
 rw[← hX3] at c3
 clear hX2 hX3
 go_enter Tryd.func12,Tryd.ntmps12
 go_wp2_with fail
 generalize w.alloc (.cells #[.int .i64 0,.int .i64 0,.int .i64 0,.int .i64 0,.slice none 0 0] 26)=W0 at HX0 HB0 ⊢
 refine (h1 _).mono ?_
 rintro e w1 ⟨rfl,rfl⟩
 go_wp2_with fail
 refine (h2 _).mono ?_
 rintro e w0 ⟨rfl,rfl⟩
 clear h1 h2
 have d2:=(HB0.out.cell (p:=⟨g,off+2,none⟩) hg).trans c2
 have d3:=(HB0.out.cell (p:=⟨g,off+3,none⟩) hg).trans c3
 have lg:g < w0.heap.size:=Nat.lt_of_lt_of_le hg HB0.out.size
 have HXO:Hid ((w0.alloc (.cells #[.int .i64 (W:Int),.int .i64 (H:Int),.int .i64 X2,.int .i64 X3,.slice none 0 0] 26)).heap[w0.heap.size]?=some (.cells #[.int .i64 (W:Int),.int .i64 (H:Int),.int .i64 X2,.int .i64 X3,.slice none 0 0] 26 (0,0))):=heap_alloc_new w0 _
 have HX1:=hid_of ((Below.heap_alloc w0 (.cells #[.int .i64 (W:Int),.int .i64 (H:Int),.int .i64 X2,.int .i64 X3,.slice none 0 0] 26) _ (block_lt HX0.out)).trans HX0.out)
 have HB1:=hid_of (bal HB0.out (.cells #[.int .i64 (W:Int),.int .i64 (H:Int),.int .i64 X2,.int .i64 X3,.slice none 0 0] 26))
 go_wp2_with fail
 go_region
 go_wp2_with fail
 refine (hrs _ _ _ _).mono ?_
 rintro e w3 ⟨rfl,hB3⟩
 obtain⟨O,hO⟩:∃ O,O=w0.heap.size:=⟨_,rfl⟩
 have HX3:Hid (w3.heap[w.heap.size]?=some (.cells #[.int .i64 0,.int .i64 0,.int .i64 0,.int .i64 0,.slice none 0 0] 26 (0,0))):=(hB3.block _ (by exact block_lt HX1.out)).trans HX1.out
 have HO3:Hid (w3.heap[O]?=some (.cells #[.int .i64 (W:Int),.int .i64 (H:Int),.int .i64 X2,.int .i64 X3,.slice none 0 0] 26 (0,0))):=by rw [hO]; exact (hB3.block _ (by exact block_lt HXO.out)).trans HXO.out
 have HB3:Hid (Below w.heap.size w w3):=bnext HB1.out ⟨hB3.1,hB3.2,hB3.3,hB3.4,hB3.5⟩
 have HwO:Hid (w.heap.size < O):=by rw [hO]; exact block_lt HX0.out
 rw[← hO]
 clear hO hB3 HX0 HB0 HXO HX1 HB1 d2 d3 c2 c3 lg hrs
 have hm:=hmk w3
 obtain⟨S,hS⟩:∃ S,S=w3.heap.size:=⟨_,rfl⟩
 have HOS:Hid (O < S):=by rw [hS]; exact block_lt HO3.out
 have H4:Hid (FrmI w ((w3.alloc (.cells (madeCells #[Value.int .i64 0] T) 3)).setCell ⟨O,4,none⟩ (.slice (some ⟨S,0,none⟩) T T)) O S T (W:Int) (H:Int) X2 X3 J (fun m=>pasM W N m < 0)):=by
  have hwO:=HwO.out
  have q0:=(Below.heap_alloc w3 (.cells (madeCells #[Value.int .i64 0] T) 3) _ (block_lt HX3.out)).trans HX3.out
  have q1:=(Below.heap_alloc w3 (.cells (madeCells #[Value.int .i64 0] T) 3) _ (block_lt HO3.out)).trans HO3.out
  have q2:=IOwn.made (base:=w.heap.size+1) w3 T (by unfold maxLen; omega) (block_lt HX3.out)
  rw[← hS] at q2
  refine⟨(heap_setCell_other _ ⟨O,4,none⟩ _ _ (by show ¬ w.heap.size=O; omega)).trans q0,by have:=block_setCell (i:=4) q1 (.slice (some ⟨S,0,none⟩) T T); simpa using this,HwO.out,by have:=HOS.out; omega,⟨fun _=>0,q2.keep (heap_setCell_other _ ⟨O,4,none⟩ _ _ (by show ¬ S=O; have:=HOS.out; omega)),fun i _ h=>absurd h (Nat.not_lt_zero _)⟩,Below.setCell (p:=⟨O,4,none⟩) (bal HB3.out _) (by show w.heap.size≤O; omega) _⟩
 have u4:(w3.alloc (.cells (madeCells #[Value.int .i64 0] T) 3)).cell? ⟨O,4,none⟩=some (.slice none 0 0):=(grow_cell _ (block_lt HO3.out) 4).trans ((cell_of_block HO3.out 4).trans rfl)
 have uf:(w3.alloc (.cells (madeCells #[Value.int .i64 0] T) 3)).frozen? ⟨O,4,none⟩=false:=((bstart w3 _).frozen (p:=⟨O,4,none⟩) (block_lt HO3.out)).trans (unfrozen_of_block HO3.out 4)
 have ul:O < (w3.alloc (.cells (madeCells #[Value.int .i64 0] T) 3)).heap.size:=grow_lt _ (block_lt HO3.out)
 have HSw:Hid (w.heap.size < S):=by have h1:=HwO.out; have h2:=HOS.out; show w.heap.size < S; omega
 rw[← hS] at hm
 generalize w3.alloc (.cells (madeCells #[Value.int .i64 0] T) 3)=W3 at hm H4 u4 uf ul
 clear hmk hS HX3 HO3 HB3
 go_wp2_with fail
 clear hm u4 uf ul
 generalize W3.setCell ⟨O,4,none⟩ (.slice (some ⟨S,0,none⟩) T T)=W4 at H4 ⊢
 go_loopg [41] 8 (fun gk i w'=>∃ (p:Nat),p≤7∧7 - p≤gk∧i=.int .i64 (p:Int)∧Hid (FrmI w w' O S T (W:Int) (H:Int) X2 X3 J (fun m=>pasM W N m < p))∧Hid (∀ j,j < p→FitsP W H N X2 X3 j (R j)))
 case atStart=>exact⟨0,Nat.zero_le _,by omega,rfl,H4,fun j hj=>absurd hj (Nat.not_lt_zero j)⟩
 case round=>
  clear H4
  obtain⟨p,hp,hgk,rfl,hI,hfit⟩:=hrel
  obtain⟨k0,k1,k2,k3,k4,lx⟩:=hI.out.cells
  by_cases hlt:p < 7
  ·have dl:decide ((p:Int) < 7)=true:=decide_eq_true (by omega)
   have x7:(p:Int) < 7:=by omega
   have HBI:=hid_of hI.out.2.2.2.2.2
   obtain⟨hat,hcm,_,_⟩:=HC.out p hlt
   obtain⟨h,hOw,hhJ⟩:=hI.out.2.2.2.2.1
   have hGr:=HG.out.called HBI.out
   have hPP:=HPP.out p hlt S (w.heap.size+1) h wr hGr hOw (hcm.called HBI.out) (fun g' off' e hn=>Nat.lt_trans (HSF.out p hlt g' off' e hn) HSw.out)
   obtain⟨l0,l1,l2,l3,l4⟩:=hat.keep (HBI.out.block g hg)
   have ll:g < wr.heap.size:=Nat.lt_of_lt_of_le hg HBI.out.size
   have HCE:∀ w5:World,Hid (Below S wr w5)→(w5.cell? ⟨O,0,none⟩=some (.int .i64 (W:Int))∧w5.cell? ⟨O,1,none⟩=some (.int .i64 (H:Int))∧w5.cell? ⟨O,2,none⟩=some (.int .i64 X2)∧w5.cell? ⟨O,3,none⟩=some (.int .i64 X3)∧w5.cell? ⟨O,4,none⟩=some (.slice (some ⟨S,0,none⟩) T T)∧O < w5.heap.size∧w5.cell? ⟨g,off+p * 5,none⟩=some (.int .i64 (R p).x0)∧w5.cell? ⟨g,off+p * 5+1,none⟩=some (.int .i64 (R p).x1)∧w5.cell? ⟨g,off+p * 5+2,none⟩=some (.int .i64 (R p).x2)∧w5.cell? ⟨g,off+p * 5+3,none⟩=some (.int .i64 (R p).x3)∧w5.cell? ⟨g,off+p * 5+4,none⟩=some (.slice (A p) (R p).n (C p))∧g < w5.heap.size):=fun w5 h5=>by
    have hgS:g < S:=Nat.lt_trans hg HSw.out
    have hz:=h5.out.size
    exact⟨(h5.out.cell (p:=⟨O,0,none⟩) HOS.out).trans k0,(h5.out.cell (p:=⟨O,1,none⟩) HOS.out).trans k1,(h5.out.cell (p:=⟨O,2,none⟩) HOS.out).trans k2,(h5.out.cell (p:=⟨O,3,none⟩) HOS.out).trans k3,(h5.out.cell (p:=⟨O,4,none⟩) HOS.out).trans k4,Nat.lt_of_lt_of_le lx hz,
     (h5.out.cell (p:=⟨g,off+p * 5,none⟩) hgS).trans l0,(h5.out.cell (p:=⟨g,off+p * 5+1,none⟩) hgS).trans l1,(h5.out.cell (p:=⟨g,off+p * 5+2,none⟩) hgS).trans l2,(h5.out.cell (p:=⟨g,off+p * 5+3,none⟩) hgS).trans l3,(h5.out.cell (p:=⟨g,off+p * 5+4,none⟩) hgS).trans l4,Nat.lt_of_lt_of_le ll hz⟩
   by_cases hf:FitsP W H N X2 X3 p (R p)
   ·have hput:∀ V:World,V=wr.drew→Calls Tryd.prog 40 #[.agg #[.int .i64 (W:Int),.int .i64 (H:Int),.int .i64 X2,.int .i64 X3,.slice (some ⟨S,0,none⟩) T T],.agg #[.int .i64 (R p).x0,.int .i64 (R p).x1,.int .i64 (R p).x2,.int .i64 (R p).x3,.slice (A p) (R p).n (C p)],.int .i64 (p:Int)] V fun e w'=>e=.returned (.bool true)∧Hid (Below S wr w')∧Hid (FrmI w w' O S T (W:Int) (H:Int) X2 X3 J (fun m=>pasM W N m < p+1)):=by
     rintro V rfl
     have q:=HPP.out p hlt S (w.heap.size+1) h wr.drew hGr hOw.drew (hcm.called HBI.out.drew) (fun g' off' e hn=>Nat.lt_trans (HSF.out p hlt g' off' e hn) HSw.out)
     refine q.mono ?_
     rintro e w' ⟨hb,hc⟩
     have hb':Below S wr w':=⟨hb.1,hb.2,hb.3,hb.4,hb.5⟩
     rcases hc with ⟨_,rfl,hO⟩ | ⟨hn,_⟩
     ·rw[← HTT.out] at hO
      exact⟨rfl,hb',hI.out.put HOS.out hhJ HTT.out hO hb' (fun i hi e=>HJJ.out p hlt hf i hi e)⟩
     ·exact absurd hf hn
    have HFT:Hid (∀ j,j < p+1→FitsP W H N X2 X3 j (R j)):=fun j hj=>by
     by_cases e:j=p
     ·rw[e]; exact hf
     ·exact hfit.out j (by omega)
    clear hPP hOw hhJ hf hfit hGr hcm hat
    generalize (R p).x0=r0 at *
    generalize (R p).x1=r1 at *
    generalize (R p).x2=r2 at *
    generalize (R p).x3=r3 at *
    generalize (R p).n=rn at *
    generalize A p=ap at *
    generalize C p=cp at *
    go_wp2_with fail
    go_region_held3 (fun u=>u.cell? ⟨O,0,none⟩=some (.int .i64 (W:Int))∧u.cell? ⟨O,1,none⟩=some (.int .i64 (H:Int))∧u.cell? ⟨O,2,none⟩=some (.int .i64 X2)∧u.cell? ⟨O,3,none⟩=some (.int .i64 X3)∧u.cell? ⟨O,4,none⟩=some (.slice (some ⟨S,0,none⟩) T T)∧u.cell? ⟨g,off+p * 5,none⟩=some (.int .i64 r0)∧u.cell? ⟨g,off+p * 5+1,none⟩=some (.int .i64 r1)∧u.cell? ⟨g,off+p * 5+2,none⟩=some (.int .i64 r2)∧u.cell? ⟨g,off+p * 5+3,none⟩=some (.int .i64 r3)∧u.cell? ⟨g,off+p * 5+4,none⟩=some (.slice ap rn cp)) (refine⟨?_,?_,?_,?_,?_,?_,?_,?_,?_,?_⟩ <;> assumption) (first | (go_at_call 40; refine (hput _ rfl).mono ?_; rintro e w5 ⟨rfl,HR5,HF5⟩; obtain⟨k0,k1,k2,k3,k4,lx,l0,l1,l2,l3,l4,ll⟩:=HCE w5 HR5))
    clear k0 k1 k2 k3 k4 lx l0 l1 l2 l3 l4 ll
    go_wp2_with fail
    go_roundg (7 - (p+1))
    case measure=>omega
    case rel=>exact⟨p+1,by omega,Nat.le_refl _,by go_num,HF5,HFT⟩
   ·have hput:∀ V:World,V=wr.drew→Calls Tryd.prog 40 #[.agg #[.int .i64 (W:Int),.int .i64 (H:Int),.int .i64 X2,.int .i64 X3,.slice (some ⟨S,0,none⟩) T T],.agg #[.int .i64 (R p).x0,.int .i64 (R p).x1,.int .i64 (R p).x2,.int .i64 (R p).x3,.slice (A p) (R p).n (C p)],.int .i64 (p:Int)] V fun e w'=>e=.returned (.bool false)∧Hid (Below S wr w'):=by
     rintro V rfl
     have q:=HPP.out p hlt S (w.heap.size+1) h wr.drew hGr hOw.drew (hcm.called HBI.out.drew) (fun g' off' e hn=>Nat.lt_trans (HSF.out p hlt g' off' e hn) HSw.out)
     refine q.mono ?_
     rintro e w' ⟨hb,hc⟩
     have hb':Below S wr w':=⟨hb.1,hb.2,hb.3,hb.4,hb.5⟩
     rcases hc with ⟨hn,_⟩ | ⟨_,rfl⟩
     ·exact absurd hn hf
     ·exact⟨rfl,hb'⟩
    have HNF:Hid (¬ FR):=fun e=>hf ((HFR.out.mp e).1 p hlt)
    have HZ:=hid_of hI.out.1
    clear hPP hOw hhJ hf hfit hGr hcm hat hI
    generalize (R p).x0=r0 at *
    generalize (R p).x1=r1 at *
    generalize (R p).x2=r2 at *
    generalize (R p).x3=r3 at *
    generalize (R p).n=rn at *
    generalize A p=ap at *
    generalize C p=cp at *
    go_wp2_with fail
    go_region_held3 (fun u=>u.cell? ⟨O,0,none⟩=some (.int .i64 (W:Int))∧u.cell? ⟨O,1,none⟩=some (.int .i64 (H:Int))∧u.cell? ⟨O,2,none⟩=some (.int .i64 X2)∧u.cell? ⟨O,3,none⟩=some (.int .i64 X3)∧u.cell? ⟨O,4,none⟩=some (.slice (some ⟨S,0,none⟩) T T)∧u.cell? ⟨g,off+p * 5,none⟩=some (.int .i64 r0)∧u.cell? ⟨g,off+p * 5+1,none⟩=some (.int .i64 r1)∧u.cell? ⟨g,off+p * 5+2,none⟩=some (.int .i64 r2)∧u.cell? ⟨g,off+p * 5+3,none⟩=some (.int .i64 r3)∧u.cell? ⟨g,off+p * 5+4,none⟩=some (.slice ap rn cp)) (refine⟨?_,?_,?_,?_,?_,?_,?_,?_,?_,?_⟩ <;> assumption) (first | (go_at_call 40; refine (hput _ rfl).mono ?_; rintro e w5 ⟨rfl,HR5⟩; obtain⟨k0,k1,k2,k3,k4,lx,l0,l1,l2,l3,l4,ll⟩:=HCE w5 HR5))
    have HZ5:=hid_of ((HR5.out.block _ HSw.out).trans HZ.out)
    clear k0 k1 k2 k3 k4 lx l0 l1 l2 l3 l4 ll
    obtain⟨z0,z1,z2,z3,z4,zl⟩:=ras_value HZ5.out
    have zf:=unfrozen_of_block HZ5.out
    go_wp2_with fail
    refine bodyPost_ret (v:=.tuple #[rasO,.bool false]) ?_ rfl ⟨.inr ⟨HNF.out,rfl⟩,?_⟩
    ·simp[results,Tryd.results12,go_sem, *]
    ·iterate 5 refine Below.setCell ?_ (by exact Nat.le_refl _) _
     exact HBI.out.trans (HR5.out.mono (Nat.le_of_lt HSw.out))
  ·obtain rfl:p=7:=by omega
   have HOW:=hid_of (hI.out.own (fun i _=>passAt_lt _ _))
   have HOC:=implRaster (W:Int) (H:Int) X2 X3 (some ⟨S,0,none⟩) T T J wr HOW.out.sl.came (by omega) (Nat.le_refl _) (by unfold maxLen; omega)
   have HBI:=hid_of hI.out.2.2.2.2.2
   by_cases hok:RasR (W:Int) (H:Int) X2 X3 T J
   ·have hcall:Calls Tryd.prog 35 #[.agg #[.int .i64 (W:Int),.int .i64 (H:Int),.int .i64 X2,.int .i64 X3,.slice (some ⟨S,0,none⟩) T T]] wr fun e w'=>e=.returned (.bool true)∧Below wr.heap.size wr w':=by
     refine HOC.mono ?_
     rintro e w' ⟨b,rfl,hb,hB⟩
     cases b with
     | true=>exact⟨rfl,hB⟩
     | false=>exact absurd (hb.mpr hok) (by simp)
    have HYES:Hid FR:=HFR.out.mpr ⟨hfit.out,hok⟩
    clear HOC hok
    go_wp2_with fail
    refine hcall.mono ?_
    rintro e w6 ⟨rfl,hB6⟩
    have HF6:=hid_of (hI.out.called hB6)
    have HO6:=hid_of (HOW.out.called hB6)
    have HB6:=hid_of (bnext HBI.out hB6)
    clear hB6 hcall hI HOW HBI k0 k1 k2 k3 k4 lx
    obtain⟨o0,o1,o2,o3,o4,lo⟩:=HF6.out.cells
    obtain⟨z0,z1,z2,z3,z4,zf,zl⟩:=HF6.out.zero
    have hOb:¬ O=w.heap.size:=by have:=HwO.out; omega
    clear HF6
    go_wp2_with fail
    refine bodyPost_ret (v:=.tuple #[.agg #[.int .i64 (W:Int),.int .i64 (H:Int),.int .i64 X2,.int .i64 X3,.slice (some ⟨S,0,none⟩) T T],.bool true]) ?_ rfl ⟨.inl ⟨HYES.out,S,rfl,?_,by omega⟩,?_⟩
    ·simp[results,Tryd.results12,go_sem, *]
    ·refine (HO6.out.mono (by omega)).keep ?_
     iterate 5 rw [heap_setCell_other _ _ _ _ (by show ¬ S=w.heap.size; have:=HSw.out; omega)]
    ·iterate 5 refine Below.setCell ?_ (by exact Nat.le_refl _) _
     exact HB6.out
   ·have hcall:Calls Tryd.prog 35 #[.agg #[.int .i64 (W:Int),.int .i64 (H:Int),.int .i64 X2,.int .i64 X3,.slice (some ⟨S,0,none⟩) T T]] wr fun e w'=>e=.returned (.bool false)∧Below wr.heap.size wr w':=by
     refine HOC.mono ?_
     rintro e w' ⟨b,rfl,hb,hB⟩
     cases b with
     | true=>exact absurd (hb.mp rfl) hok
     | false=>exact⟨rfl,hB⟩
    have HNF:Hid (¬ FR):=fun e=>hok (HFR.out.mp e).2
    clear HOC hok
    go_wp2_with fail
    refine hcall.mono ?_
    rintro e w6 ⟨rfl,hB6⟩
    have HF6:=hid_of (hI.out.called hB6)
    have HB6:=hid_of (bnext HBI.out hB6)
    clear hB6 hcall hI HOW HBI k0 k1 k2 k3 k4 lx
    obtain⟨z0,z1,z2,z3,z4,zf,zl⟩:=HF6.out.zero
    clear HF6
    go_wp2_with fail
    refine bodyPost_ret (v:=.tuple #[rasO,.bool false]) ?_ rfl ⟨.inr ⟨HNF.out,rfl⟩,?_⟩
    ·simp[results,Tryd.results12,go_sem, *]
    ·iterate 5 refine Below.setCell ?_ (by exact Nat.le_refl _) _
     exact HB6.out
theorem from_answer:FromAnswer:=by
 intro W H a m c R w hC hm hRn _ _ hG
 by_cases h0:SideR W∧SideR H∧m=7
 ·obtain⟨hW,hH,rfl⟩:=h0
  obtain⟨A,rfl⟩:=Int.eq_ofNat_of_zero_le (show 0≤W by have:=hW.1; omega)
  obtain⟨B,rfl⟩:=Int.eq_ofNat_of_zero_le (show 0≤H by have:=hH.1; omega)
  rcases hC with q | ⟨g,off,AA,CC,rfl,hg,hc⟩
  ·omega
  have q:=implFrom_in A B g off c AA CC R w (by have:=hW.1; have:=hW.2; omega) (by have:=hH.1; have:=hH.2; omega) hg hc hRn hG
  refine⟨fun hy=>q.mono ?_,fun hn=>q.mono ?_⟩
  ·rintro e w' ⟨hc,hB⟩
   rcases hc with ⟨_,S,rfl,hO,hT⟩ | ⟨hn,_⟩
   ·exact⟨_,_,rfl,hO.sl,Nat.le_refl _,by unfold maxLen; omega,hB⟩
   ·exact absurd hy hn
  ·rintro e w' ⟨hc,hB⟩
   rcases hc with ⟨hy,_⟩ | ⟨_,rfl⟩
   ·exact absurd hy hn
   ·exact⟨_,_,rfl,hB⟩
 ·have hn:¬ FromR W H m R:=fun h=>h0 ⟨h.2.1.1,h.2.1.2.1,h.1⟩
  refine⟨fun h=>absurd h hn,fun _=>(implFrom_no0 W H a m c w h0).mono ?_⟩
  rintro e w' ⟨rfl,hB⟩
  exact⟨_,_,rfl,hB⟩
end
section
namespace ScanMath
open Go.RowKit OutMath TakeMath RastMath FiltMath PassMath
theorem bts_behind (t:ByteArray) (o i:Nat) (h:o+i < t.size):bts (t.extract o t.size) i=bts t (o+i):=by
 have:=bts_cut t o (t.size - o) i (by omega) (by omega)
 rw[show o+(t.size - o)=t.size by omega] at this
 exact this
theorem cut_behind (t:ByteArray) (o x y:Nat) (h:o+y≤t.size):(t.extract o t.size).extract x y=t.extract (o+x) (o+y):=by
 rw[ByteArray.extract_extract,Nat.min_eq_left h]
theorem rrow_behind (t:ByteArray) (o b u:Nat):∀ j,o+(j+1) * (b+1)≤t.size→rrow (t.extract o t.size) 0 b u j=rrow t o b u j
 | 0,h=>by
  have h1:(0+1) * (b+1)=b+1:=by rw [Nat.zero_add,Nat.one_mul]
  rw[rrow_form,rrow_form,Nat.zero_mul,Nat.add_zero,Nat.add_zero,bts_behind t o 0 (by omega),cut_behind t o _ _ (by omega),Nat.add_zero,← Nat.add_assoc]
  rfl
 | j+1,h=>by
  have h1:(j+1+1) * (b+1)=(j+1) * (b+1)+(b+1):=by rw [Nat.add_mul,Nat.one_mul]
  rw[rrow_form,rrow_form,Nat.zero_add,bts_behind t o _ (by omega),cut_behind t o _ _ (by omega),← Nat.add_assoc,← Nat.add_assoc,← Nat.add_assoc]
  show unfT _ _ (rrow (t.extract o t.size) 0 b u j) u=unfT _ _ (rrow t o b u j) u
  rw[rrow_behind t o b u j (by omega)]
theorem rsmp_behind (t:ByteArray) (o s D u H:Nat) (h:o+H * (rb s D+1)≤t.size) (i:Nat) (hi:i < H * s):rsmp (t.extract o t.size) 0 s D u i=rsmp t o s D u i:=by
 have hs:0 < s:=by
  rcases Nat.eq_zero_or_pos s with e | e
  ·rw[e,Nat.mul_zero] at hi
   omega
  ·exact e
 have hj:i / s < H:=(Nat.div_lt_iff_lt_mul hs).mpr hi
 have h2:=Nat.mul_le_mul_right (rb s D+1) (show i / s+1≤H by omega)
 unfold rsmp
 rw[rrow_behind t o _ u _ (by omega)]
theorem scanN_ge {lace:Bool} {W H N D:Nat} (hW:1≤W∧W≤24) (hH:1≤H∧H≤24):1≤scanN lace W H N D:=by
 have h1:1≤chL lace W H 0:=by
  unfold chL
  split
  ·unfold ph
   have e1:cntP W (px 0) (pdx 0)=(W - 0 - 1) / 8+1:=by
    unfold cntP
    rw[if_pos (show px 0 < W by show 0 < W; omega)]
    rfl
   have e2:cntP H (py 0) (pdy 0)=(H - 0 - 1) / 8+1:=by
    unfold cntP
    rw[if_pos (show py 0 < H by show 0 < H; omega)]
    rfl
   rw[if_neg (by omega),e2]
   omega
  ·exact hH.1
 have h2:offP (cwL lace W H) (chL lace W H) N D 1≤scanN lace W H N D:=offP_mono (by unfold cntL; split <;> omega)
 rw[offP_succ] at h2
 have h3:1≤chL lace W H 0 * (rb (cwL lace W H 0 * N) D+1):=Nat.mul_pos h1 (by omega)
 omega
end ScanMath
end
end Go.Proofs.YtcbbcadfolgioaaDoor
