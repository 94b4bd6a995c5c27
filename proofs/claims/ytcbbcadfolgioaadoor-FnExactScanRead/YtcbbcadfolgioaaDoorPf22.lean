/-
  Texts of the proof, put together.
-/
import Derived.Test.YtcbbcadfolgioaaDoorPf21
namespace Go.Proofs.YtcbbcadfolgioaaDoor
open Go.RowKit Go.Joins RastMath PassMath
def putF (W H N p:Nat) (f h:Nat→Int) (k m:Nat):Int:=if pasM W N m=p∧idxM W H N m < k then f (idxM W H N m) else h m
theorem putF_zero (W H N p:Nat) (f h:Nat→Int) (m:Nat):putF W H N p f h 0 m=h m:=if_neg (fun e=>Nat.not_lt_zero _ e.2)
theorem putF_next {W H N p k:Nat} {f h:Nat→Int} (hN:1≤N) (hW:1≤W∧W≤24) (hH:H≤24) (hp:p < 7) (hk:k < pw W H p * ph W H p * N) {m:Nat} (hm:m < W * H * N):upd (putF W H N p f h k) (posP W H N p k) (f k) m=putF W H N p f h (k+1) m:=by
 obtain⟨e1,e2⟩:=pos_back hN hW.2 hH hp hk
 unfold upd
 by_cases e:m=posP W H N p k
 ·subst e
  rw[if_pos rfl]
  unfold putF
  rw[if_pos ⟨e1,by omega⟩,e2]
 ·rw[if_neg e]
  unfold putF
  by_cases c:pasM W N m=p∧idxM W H N m < k
  ·rw[if_pos c,if_pos ⟨c.1,by omega⟩]
  ·rw[if_neg c,if_neg]
   rintro⟨c1,c2⟩
   refine e ?_
   have h3:=(idx_back hN hW hH hm).2.2
   rw[c1,show idxM W H N m=k by rcases Nat.lt_or_ge (idxM W H N m) k with q | q; exact absurd ⟨c1,q⟩ c; omega] at h3
   exact h3.symm
def PutPost (W H N:Nat) (x2 x3:Int) (p S B:Nat) (h:Nat→Int) (q:Ras) (w:World) (e:Ending) (w':World):Prop:=
 Below S w w'∧((FitsP W H N x2 x3 p q∧e=.returned (.bool true)∧IOwn w' B S (W * H * N) (W * H * N) (putF W H N p q.f h q.n))∨(¬ FitsP W H N x2 x3 p q∧e=.returned (.bool false)))
set_option maxRecDepth 100000 in
set_option maxHeartbeats 6400000 in
theorem putPass_any (W H N p:Nat) (x2 x3:Int) (S B:Nat) (h:Nat→Int) (q:Ras) (aq:Option Addr) (cq:Nat) (w:World) (hW:1≤W∧W≤24) (hH:1≤H∧H≤24) (hN:chan x2=(N:Int)) (hN4:N≤4) (hp:p < 7) (hG:GridG w) (hS:IOwn w B S (W * H * N) (W * H * N) h) (hC:Came w aq q.n q.f) (hqn:q.n≤1048576) (hold:∀ g off,aq=some ⟨g,off,none⟩→0 < q.n→g < S):
  Calls Tryd.prog 40 #[.agg #[.int .i64 (W:Int),.int .i64 (H:Int),.int .i64 x2,.int .i64 x3,.slice (some ⟨S,0,none⟩) (W * H * N) (W * H * N)],rasA q aq cq,.int .i64 (p:Int)] w (PutPost W H N x2 x3 p S B h q w):=by
 have hTle:W * H * N≤2304:=by
  have h1:=Nat.mul_le_mul hW.2 hH.2
  have h2:=Nat.mul_le_mul h1 hN4
  exact Nat.le_trans h2 (by omega)
 have hSl:=hS.lt
 obtain⟨y0,y1,y2,y3,n,f⟩:=q
 obtain⟨K,hKe⟩:∃ K,K=pw W H p * ph W H p * N:=⟨_,rfl⟩
 have hKb:K≤2304:=by
  have h1:=Nat.mul_le_mul (Nat.le_trans (pw_le W H p) hW.2) (Nat.le_trans (ph_le W H p) hH.2)
  rw[hKe]
  exact Nat.le_trans (Nat.mul_le_mul h1 hN4) (by omega)
 have HFT:Hid (FitsP W H N x2 x3 p ⟨y0,y1,y2,y3,n,f⟩↔((y0=(pw W H p:Int)∧y1=(ph W H p:Int)∧y2=x2∧y3=x3)∧n=K)):=by
  rw[hKe]
  exact⟨fun e=>⟨⟨e.1,e.2.1,e.2.2.1,e.2.2.2.1⟩,e.2.2.2.2⟩,fun e=>⟨e.1.1,e.1.2.1,e.1.2.2.1,e.1.2.2.2,e.2⟩⟩
 have HPO:Hid (∀ k,k < K→posP W H N p k < W * H * N):=fun k hk=>by
  have hN1:1≤N:=by
   rcases Nat.eq_zero_or_pos N with e | e
   ·rw[hKe,e,Nat.mul_zero] at hk; omega
   ·exact e
  exact pos_lt hN1 hp (by rw [← hKe]; exact hk)
 have HPF:Hid (∀ k,k < K→∀ m,m < W * H * N→upd (putF W H N p f h k) (posP W H N p k) (f k) m=putF W H N p f h (k+1) m):=fun k hk m hm=>by
  have hN1:1≤N:=by
   rcases Nat.eq_zero_or_pos N with e | e
   ·rw[hKe,e,Nat.mul_zero] at hk; omega
   ·exact e
  exact putF_next hN1 hW hH.2 hp (by rw [← hKe]; exact hk) hm
 unfold PutPost
 generalize FitsP W H N x2 x3 p ⟨y0,y1,y2,y3,n,f⟩=FT at *
 have HX:Hid (((w.alloc (.cells #[.int .i64 (W:Int),.int .i64 (H:Int),.int .i64 x2,.int .i64 x3,.slice (some ⟨S,0,none⟩) (W * H * N) (W * H * N)] 26)).alloc (.cells #[.int .i64 y0,.int .i64 y1,.int .i64 y2,.int .i64 y3,.slice aq n cq] 26)).heap[w.heap.size]?=some (.cells #[.int .i64 (W:Int),.int .i64 (H:Int),.int .i64 x2,.int .i64 x3,.slice (some ⟨S,0,none⟩) (W * H * N) (W * H * N)] 26 (0,0))):=
  (Below.heap_alloc (w.alloc _) _ _ (by simp)).trans (heap_alloc_new w _)
 have HY:Hid (((w.alloc (.cells #[.int .i64 (W:Int),.int .i64 (H:Int),.int .i64 x2,.int .i64 x3,.slice (some ⟨S,0,none⟩) (W * H * N) (W * H * N)] 26)).alloc (.cells #[.int .i64 y0,.int .i64 y1,.int .i64 y2,.int .i64 y3,.slice aq n cq] 26)).heap[w.heap.size+1]?=some (.cells #[.int .i64 y0,.int .i64 y1,.int .i64 y2,.int .i64 y3,.slice aq n cq] 26 (0,0))):=by
  have:=heap_alloc_new (w.alloc (.cells #[.int .i64 (W:Int),.int .i64 (H:Int),.int .i64 x2,.int .i64 x3,.slice (some ⟨S,0,none⟩) (W * H * N) (W * H * N)] 26)) (.cells #[.int .i64 y0,.int .i64 y1,.int .i64 y2,.int .i64 y3,.slice aq n cq] 26)
  rw[show (w.alloc (.cells #[.int .i64 (W:Int),.int .i64 (H:Int),.int .i64 x2,.int .i64 x3,.slice (some ⟨S,0,none⟩) (W * H * N) (W * H * N)] 26)).heap.size=w.heap.size+1 by simp] at this
  exact this
 have HB:=hid_of (bal (bstart w (.cells #[.int .i64 (W:Int),.int .i64 (H:Int),.int .i64 x2,.int .i64 x3,.slice (some ⟨S,0,none⟩) (W * H * N) (W * H * N)] 26)) (.cells #[.int .i64 y0,.int .i64 y1,.int .i64 y2,.int .i64 y3,.slice aq n cq] 26))
 have HPL:Hid (∀ V,GridG V→Calls Tryd.prog 37 #[.agg #[.int .i64 (W:Int),.int .i64 (H:Int),.int .i64 x2,.int .i64 x3,.slice (some ⟨S,0,none⟩) (W * H * N) (W * H * N)],.int .i64 (p:Int)] V (PlacesPost W H N p V)):=fun V hV=>passPlaces_any W H N p x2 x3 _ V hW hH hN hN4 hp hV
 have HPS:Hid (∀ V,GridG V→Calls Tryd.prog 36 #[.agg #[.int .i64 (W:Int),.int .i64 (H:Int),.int .i64 x2,.int .i64 x3,.slice (some ⟨S,0,none⟩) (W * H * N) (W * H * N)],.int .i64 (p:Int)] V fun e w'=>e=.returned (.agg #[.int .i64 (pw W H p:Int),.int .i64 (ph W H p:Int),.int .i64 x2,.int .i64 x3,.slice none 0 0])∧Below V.heap.size V w'):=fun V hV=>by
  have q:=passShape_any (W:Int) (H:Int) x2 x3 (p:Int) (.slice (some ⟨S,0,none⟩) (W * H * N) (W * H * N)) V hV
  rw[(wideV_nat hW hH hp).1,(wideV_nat hW hH hp).2] at q
  exact q
 have HHS:Hid (∀ V,Calls Tryd.prog 81 #[.agg #[.int .i64 y0,.int .i64 y1,.int .i64 y2,.int .i64 y3,.slice aq n cq],.agg #[.int .i64 (pw W H p:Int),.int .i64 (ph W H p:Int),.int .i64 x2,.int .i64 x3,.slice none 0 0]] V fun e w'=>e=.returned (.bool (decide (y0=(pw W H p:Int)∧y1=(ph W H p:Int)∧y2=x2∧y3=x3)))∧Below V.heap.size V w'):=fun V=>hasShape_any _ _ _ _ _ _ _ _ _ _ V
 have HSO:=hid_of hS
 have HCQ:=hid_of hC
 have HOL:=hid_of hold
 have HG:=hid_of hG
 unfold PlacesPost at HPL
 rw[← hKe] at HPL
 have HP0:Hid (∀ m,putF W H N p f h 0 m=h m):=putF_zero W H N p f h
 clear hS hC hold hG hN hKe
 generalize posP W H N p=PO at *
 generalize pw W H p=PW at *
 generalize ph W H p=PH at *
 generalize putF W H N p f h=PF at *
 generalize W * H * N=T at *
 go_enter Tryd.func40,Tryd.ntmps40
 go_wp2_with fail
 generalize (w.alloc (.cells #[.int .i64 (W:Int),.int .i64 (H:Int),.int .i64 x2,.int .i64 x3,.slice (some ⟨S,0,none⟩) T T] 26)).alloc (.cells #[.int .i64 y0,.int .i64 y1,.int .i64 y2,.int .i64 y3,.slice aq n cq] 26)=W1 at HX HY HB ⊢
 refine (HPL.out W1 (HG.out.called HB.out)).mono ?_
 rintro e w2 ⟨gp,cp,rfl,hO2,hB2⟩
 have HX2:=hid_of ((hB2.block _ (block_lt HX.out)).trans HX.out)
 have HY2:=hid_of ((hB2.block _ (block_lt HY.out)).trans HY.out)
 have HB2:=hid_of (bnext HB.out hB2)
 have HG2:=hid_of (HG.out.called HB2.out)
 have HO2:=hid_of hO2
 have HSz:Hid (w.heap.size < gp):=by have:=hO2.base_le; have:=block_lt HX.out; exact Nat.lt_of_lt_of_le (block_lt HX.out) hO2.base_le
 clear hB2 hO2 HX HY HB HPL HG
 generalize hXq:w.heap.size=X at HX2 HY2 HSz ⊢
 have HXq:=hid_of hXq
 clear hXq
 obtain⟨k0,k1,k2,k3,k4,lx⟩:=ras_value HX2.out
 obtain⟨j0,j1,j2,j3,j4,ly⟩:=ras_value HY2.out
 by_cases hd:y0=(PW:Int)∧y1=(PH:Int)∧y2=x2∧y3=x3
 ·have HHT:Hid (∀ V,Calls Tryd.prog 81 #[.agg #[.int .i64 y0,.int .i64 y1,.int .i64 y2,.int .i64 y3,.slice aq n cq],.agg #[.int .i64 (PW:Int),.int .i64 (PH:Int),.int .i64 x2,.int .i64 x3,.slice none 0 0]] V fun e w'=>e=.returned (.bool true)∧Below V.heap.size V w'):=fun V=>by
   have:=HHS.out V
   rw[decide_eq_true hd] at this
   exact this
  have HD:=hid_of hd
  clear HHS hd
  go_wp2_with fail
  go_region_held3 (fun u=>u.cell? ⟨X,0,none⟩=some (.int .i64 (W:Int))∧u.cell? ⟨X,1,none⟩=some (.int .i64 (H:Int))∧u.cell? ⟨X,2,none⟩=some (.int .i64 x2)∧u.cell? ⟨X,3,none⟩=some (.int .i64 x3)∧u.cell? ⟨X,4,none⟩=some (.slice (some ⟨S,0,none⟩) T T)∧u.cell? ⟨X+1,0,none⟩=some (.int .i64 y0)∧u.cell? ⟨X+1,1,none⟩=some (.int .i64 y1)∧u.cell? ⟨X+1,2,none⟩=some (.int .i64 y2)∧u.cell? ⟨X+1,3,none⟩=some (.int .i64 y3)∧u.cell? ⟨X+1,4,none⟩=some (.slice aq n cq)) (refine⟨?_,?_,?_,?_,?_,?_,?_,?_,?_,?_⟩ <;> assumption) (first
   | (go_at_call 36; refine (HPS.out _ (by exact HG2.out)).mono ?_; rintro e w3 ⟨rfl,hB3⟩; have HX3:=hid_of ((hB3.block _ (by exact block_lt HX2.out)).trans HX2.out); have HY3:=hid_of ((hB3.block _ (by exact block_lt HY2.out)).trans HY2.out); have HB3:Hid (Below w2.heap.size w2 w3):=⟨hB3.1,hB3.2,hB3.3,hB3.4,hB3.5⟩; clear hB3; obtain⟨k0,k1,k2,k3,k4,lx⟩:=ras_value HX3.out; obtain⟨j0,j1,j2,j3,j4,ly⟩:=ras_value HY3.out)
   | (go_at_call 81; refine (HHT.out _).mono ?_; rintro e w4 ⟨rfl,hB4⟩; have HX4:=hid_of ((hB4.block _ (by exact block_lt HX3.out)).trans HX3.out); have HY4:=hid_of ((hB4.block _ (by exact block_lt HY3.out)).trans HY3.out); have HB4:Hid (Below w2.heap.size w2 w4):=bnext HB3.out hB4; clear hB4; obtain⟨m0,m1,m2,m3,m4,mx⟩:=ras_value HX4.out; obtain⟨i0,i1,i2,i3,i4,iy⟩:=ras_value HY4.out))
  have HSL:Hid (IOwn w4 B S T T (PF 0)):=((HSO.out.called HB2.out).called HB4.out).congr fun i _=>(HP0.out i).symm
  have HO4:=hid_of (HO2.out.called HB4.out)
  have HC4:=hid_of ((HCQ.out.called HB2.out).called HB4.out)
  have HB5:Hid (Below w.heap.size w w4):=bnext HB2.out HB4.out
  clear HPS HHT HG2 HX2 HY2 HX3 HY3 HB2 HB3 HB4 HO2 HCQ HSO k0 k1 k2 k3 k4 lx j0 j1 j2 j3 j4 ly m0 m1 m2 m3 m4 mx i0 i1 i2 i3 i4 iy
  by_cases hnK:n=K
  ·subst hnK
   go_wp2_with fail
   go_loopg [29] (n+1) (fun gk i w'=>∃ (k:Nat),k≤n∧n - k≤gk∧i=.int .i64 (k:Int)∧Hid (IOwn w' B S T T (PF k)∧(∀ b,b≠S→w'.heap[b]?=w4.heap[b]?)∧Below S w4 w'))
   case atStart=>exact⟨0,Nat.zero_le _,by omega,rfl,HSL.out,fun _ _=>rfl,Below.refl _ _⟩
   case round=>
    clear HSL
    obtain⟨k,hk,hgk,rfl,hJ⟩:=hrel
    by_cases hlk:k < n
    ·have dlk:decide ((k:Int) < (n:Int))=true:=decide_eq_true (by omega)
     have hpo:=HPO.out k hlk
     have hSX:S < X:=by rw [← HXq.out]; exact hSl
     obtain⟨_,_,_,_,k4,lx⟩:=ras_value ((hJ.out.2.1 X (by omega)).trans HX4.out)
     obtain⟨_,_,_,_,j4,ly⟩:=ras_value ((hJ.out.2.1 (X+1) (by omega)).trans HY4.out)
     have hgS:gp≠S:=by have:=HSz.out; omega
     have c1:wr.cell? ⟨gp,k,none⟩=some (.int .i64 (PO k:Int)):=(World.cell?_of_block (a:=⟨gp,k,none⟩) (hJ.out.2.1 gp hgS)).trans (HO4.out.cell k hlk)
     have l1:gp < wr.heap.size:=Nat.lt_of_lt_of_le HO4.out.lt hJ.out.2.2.size
     obtain⟨g,off,ha,hgl,hc⟩:∃ g off,aq=some ⟨g,off,none⟩∧g < wr.heap.size∧wr.cell? ⟨g,off+k,none⟩=some (.int .i64 (f k)):=by
      rcases HC4.out with q | ⟨g,off,ha,hg,hc⟩
      ·exact absurd q (by show ¬ n=0; omega)
      ·have hlt:=HOL.out g off ha (by show 0 < n; omega)
       exact⟨g,off,ha,Nat.lt_of_lt_of_le hg hJ.out.2.2.size,(World.cell?_of_block (a:=⟨g,off+k,none⟩) (hJ.out.2.1 g (by omega))).trans (hc k hlk)⟩
     subst ha
     have s1:=hJ.out.1.cell (PO k) hpo
     have s2:=hJ.out.1.free (PO k) hpo
     have s3:=hJ.out.1.lt
     have HN:Hid (IOwn (wr.setCell ⟨S,PO k,none⟩ (.int .i64 (f k))) B S T T (PF (k+1))∧(∀ b,b≠S→(wr.setCell ⟨S,PO k,none⟩ (.int .i64 (f k))).heap[b]?=w4.heap[b]?)∧Below S w4 (wr.setCell ⟨S,PO k,none⟩ (.int .i64 (f k)))):=
      ⟨(hJ.out.1.set (PO k) hpo (f k)).congr fun i hi=>HPF.out k hlk i hi,fun b hb=>(heap_setCell_other wr ⟨S,PO k,none⟩ _ _ hb).trans (hJ.out.2.1 b hb),Below.setCell (p:=⟨S,PO k,none⟩) hJ.out.2.2 (Nat.le_refl _) _⟩
     clear hJ
     generalize f k=Fk at *
     generalize PO k=Pk at *
     generalize PF k Pk=Zk at s1
     go_wp2_with fail
     go_region
     go_wp2_with fail
     go_roundg (n - (k+1))
     case measure=>omega
     case rel=>exact⟨k+1,by omega,Nat.le_refl _,by go_num,⟨HN.out.1.drew,HN.out.2.1,HN.out.2.2.drew⟩⟩
    ·obtain rfl:k=n:=by omega
     go_wp2_with fail
     go_ret
     exact⟨(HB5.out.mono (Nat.le_of_lt hSl)).trans hJ.out.2.2,.inl ⟨HFT.out.mpr ⟨HD.out,by trivial⟩,rfl,hJ.out.1⟩⟩
  ·have bn:((n:Int) != (K:Int))=true:=by simp; omega
   go_wp2_with fail
   go_ret
   exact⟨HB5.out.mono (Nat.le_of_lt hSl),.inr ⟨fun e=>hnK (HFT.out.mp e).2,rfl⟩⟩
 ·have HHF:Hid (∀ V,Calls Tryd.prog 81 #[.agg #[.int .i64 y0,.int .i64 y1,.int .i64 y2,.int .i64 y3,.slice aq n cq],.agg #[.int .i64 (PW:Int),.int .i64 (PH:Int),.int .i64 x2,.int .i64 x3,.slice none 0 0]] V fun e w'=>e=.returned (.bool false)∧Below V.heap.size V w'):=fun V=>by
   have:=HHS.out V
   rw[decide_eq_false hd] at this
   exact this
  have HD:=hid_of hd
  clear HHS hd
  go_wp2_with fail
  refine wp_region_held (S:=fun u=>u.cell? ⟨X,0,none⟩=some (.int .i64 (W:Int))∧u.cell? ⟨X,1,none⟩=some (.int .i64 (H:Int))∧u.cell? ⟨X,2,none⟩=some (.int .i64 x2)∧u.cell? ⟨X,3,none⟩=some (.int .i64 x3)∧u.cell? ⟨X,4,none⟩=some (.slice (some ⟨S,0,none⟩) T T)∧u.cell? ⟨X+1,0,none⟩=some (.int .i64 y0)∧u.cell? ⟨X+1,1,none⟩=some (.int .i64 y1)∧u.cell? ⟨X+1,2,none⟩=some (.int .i64 y2)∧u.cell? ⟨X+1,3,none⟩=some (.int .i64 y3)∧u.cell? ⟨X+1,4,none⟩=some (.slice aq n cq)) (by kernel_rfl) ?_
  show wpAnyH _ _ _ _ _ _ _ _ w2.drew
  have HS:w2.drew.cell? ⟨X,0,none⟩=some (.int .i64 (W:Int))∧w2.drew.cell? ⟨X,1,none⟩=some (.int .i64 (H:Int))∧w2.drew.cell? ⟨X,2,none⟩=some (.int .i64 x2)∧w2.drew.cell? ⟨X,3,none⟩=some (.int .i64 x3)∧w2.drew.cell? ⟨X,4,none⟩=some (.slice (some ⟨S,0,none⟩) T T)∧w2.drew.cell? ⟨X+1,0,none⟩=some (.int .i64 y0)∧w2.drew.cell? ⟨X+1,1,none⟩=some (.int .i64 y1)∧w2.drew.cell? ⟨X+1,2,none⟩=some (.int .i64 y2)∧w2.drew.cell? ⟨X+1,3,none⟩=some (.int .i64 y3)∧w2.drew.cell? ⟨X+1,4,none⟩=some (.slice aq n cq):=⟨k0,k1,k2,k3,k4,j0,j1,j2,j3,j4⟩
  refine wpAnyH_take (i:=0) (v:=.agg #[.int .i64 y0,.int .i64 y1,.int .i64 y2,.int .i64 y3,.slice aq n cq]) rfl (by kernel_rfl) (by kernel_rfl) (by kernel_rfl) (fun _ _ _ h=>h) (Or.inl ⟨by rfl,?_⟩) HS ?_
  ·intro w' hS
   obtain⟨s0,s1,s2,s3,s4,s5,s6,s7,s8,s9⟩:=hS
   go_simp
  simp only [Act.put,List.getElem_toArray,List.getElem_cons_zero,List.setIfInBounds_toArray,List.set_cons_zero,List.set_cons_succ]
  refine wpAnyH_take (i:=1) (v:=.agg #[.int .i64 (W:Int),.int .i64 (H:Int),.int .i64 x2,.int .i64 x3,.slice (some ⟨S,0,none⟩) T T]) rfl (by kernel_rfl) (by kernel_rfl) (by kernel_rfl) (fun _ _ _ h=>h) (Or.inl ⟨by rfl,?_⟩) HS ?_
  ·intro w' hS
   obtain⟨s0,s1,s2,s3,s4,s5,s6,s7,s8,s9⟩:=hS
   go_simp
  simp only [Act.put,List.getElem_toArray,List.getElem_cons_zero,List.getElem_cons_succ,List.setIfInBounds_toArray,List.set_cons_zero,List.set_cons_succ]
  refine wpAnyH_take (i:=2) (v:=.int .i64 (p:Int)) rfl (by kernel_rfl) (by kernel_rfl) (by kernel_rfl) (fun _ _ _ h=>h) (Or.inl ⟨by rfl,?_⟩) HS ?_
  ·intro w' hS
   obtain⟨s0,s1,s2,s3,s4,s5,s6,s7,s8,s9⟩:=hS
   go_simp
  simp only [Act.put,List.getElem_toArray,List.getElem_cons_zero,List.getElem_cons_succ,List.setIfInBounds_toArray,List.set_cons_zero,List.set_cons_succ]
  refine wpAnyH_ready (rs:=[3]) (by kernel_rfl) (by simp) ?_
  refine AllReadyH.cons rfl (fun K hK=>?_) AllReadyH.nil
  refine if_wanted (wanted_none rfl) ?_
  simp only [List.getElem_toArray,List.getElem_cons_zero,List.getElem_cons_succ]
  go_simp
  refine (HPS.out _ (by exact HG2.out)).mono ?_
  rintro e w3 ⟨rfl,hB3⟩
  have HX3:=hid_of ((hB3.block _ (by exact block_lt HX2.out)).trans HX2.out)
  have HY3:=hid_of ((hB3.block _ (by exact block_lt HY2.out)).trans HY2.out)
  have HB3:Hid (Below w2.heap.size w2 w3):=⟨hB3.1,hB3.2,hB3.3,hB3.4,hB3.5⟩
  clear hB3
  obtain⟨a0,a1,a2,a3,a4,_⟩:=ras_value HX3.out
  obtain⟨b0,b1,b2,b3,b4,_⟩:=ras_value HY3.out
  refine hK.out _ _ ⟨a0,a1,a2,a3,a4,b0,b1,b2,b3,b4⟩ (fun HS3=>?_)
  clear hK
  refine wpAnyH_ready (rs:=[4]) (by kernel_rfl) (by simp) ?_
  refine AllReadyH.cons rfl (fun K hK=>?_) AllReadyH.nil
  refine if_wanted (wanted_none rfl) ?_
  simp only [List.getElem_toArray,List.getElem_cons_zero,List.getElem_cons_succ]
  go_simp
  refine (HHF.out _).mono ?_
  rintro e w4 ⟨rfl,hB4⟩
  have HX4:=hid_of ((hB4.block _ (by exact block_lt HX3.out)).trans HX3.out)
  have HY4:=hid_of ((hB4.block _ (by exact block_lt HY3.out)).trans HY3.out)
  have HB4:Hid (Below w2.heap.size w2 w4):=bnext HB3.out hB4
  clear hB4
  obtain⟨c0,c1,c2,c3,c4,_⟩:=ras_value HX4.out
  obtain⟨d0,d1,d2,d3,d4,_⟩:=ras_value HY4.out
  refine hK.out _ _ ⟨c0,c1,c2,c3,c4,d0,d1,d2,d3,d4⟩ (fun HS4=>?_)
  clear hK
  refine wpAnyH_take (i:=5) (v:=.bool true) rfl (by kernel_rfl) (by kernel_rfl) (by kernel_rfl) (fun _ _ _ h=>h) (Or.inl ⟨by rfl,?_⟩) HS4 ?_
  ·intro w' hS
   obtain⟨s0,s1,s2,s3,s4,s5,s6,s7,s8,s9⟩:=hS
   go_simp
  simp only [Act.put,List.getElem_toArray,List.getElem_cons_zero,List.getElem_cons_succ,List.setIfInBounds_toArray,List.set_cons_zero,List.set_cons_succ]
  refine wpAnyH_take (i:=6) (v:=.bool true) rfl (by kernel_rfl) (by kernel_rfl) (by kernel_rfl) (fun _ _ _ h=>h) (Or.inl ⟨by rfl,?_⟩) HS4 ?_
  ·intro w' hS
   obtain⟨s0,s1,s2,s3,s4,s5,s6,s7,s8,s9⟩:=hS
   go_simp
  simp only [Act.put,List.getElem_toArray,List.getElem_cons_zero,List.getElem_cons_succ,List.setIfInBounds_toArray,List.set_cons_zero,List.set_cons_succ]
  refine wpAnyH_take (i:=7) (v:=undef) rfl (by kernel_rfl) (by kernel_rfl) (by kernel_rfl) (fun _ _ _ h=>h) (Or.inr ⟨by rfl,rfl⟩) HS4 ?_
  simp only [Act.put,List.getElem_toArray,List.getElem_cons_zero,List.getElem_cons_succ,List.setIfInBounds_toArray,List.set_cons_zero,List.set_cons_succ]
  refine wpAnyH_take (i:=8) (v:=undef) rfl (by kernel_rfl) (by kernel_rfl) (by kernel_rfl) (fun _ _ _ h=>h) (Or.inr ⟨by rfl,rfl⟩) HS4 ?_
  simp only [Act.put,List.getElem_toArray,List.getElem_cons_zero,List.getElem_cons_succ,List.setIfInBounds_toArray,List.set_cons_zero,List.set_cons_succ]
  refine wpAnyH_take (i:=9) (v:=undef) rfl (by kernel_rfl) (by kernel_rfl) (by kernel_rfl) (fun _ _ _ h=>h) (Or.inr ⟨by rfl,rfl⟩) HS4 ?_
  simp only [Act.put,List.getElem_toArray,List.getElem_cons_zero,List.getElem_cons_succ,List.setIfInBounds_toArray,List.set_cons_zero,List.set_cons_succ]
  refine wpAnyH_take (i:=10) (v:=undef) rfl (by kernel_rfl) (by kernel_rfl) (by kernel_rfl) (fun _ _ _ h=>h) (Or.inr ⟨by rfl,rfl⟩) HS4 ?_
  simp only [Act.put,List.getElem_toArray,List.getElem_cons_zero,List.getElem_cons_succ,List.setIfInBounds_toArray,List.set_cons_zero,List.set_cons_succ]
  refine wpAnyH_take (i:=11) (v:=undef) rfl (by kernel_rfl) (by kernel_rfl) (by kernel_rfl) (fun _ _ _ h=>h) (Or.inr ⟨by rfl,rfl⟩) HS4 ?_
  simp only [Act.put,List.getElem_toArray,List.getElem_cons_zero,List.getElem_cons_succ,List.setIfInBounds_toArray,List.set_cons_zero,List.set_cons_succ]
  refine wpAnyH_take (i:=12) (v:=undef) rfl (by kernel_rfl) (by kernel_rfl) (by kernel_rfl) (fun _ _ _ h=>h) (Or.inr ⟨by rfl,rfl⟩) HS4 ?_
  simp only [Act.put,List.getElem_toArray,List.getElem_cons_zero,List.getElem_cons_succ,List.setIfInBounds_toArray,List.set_cons_zero,List.set_cons_succ]
  refine wpAnyH_take (i:=13) (v:=.bool true) rfl (by kernel_rfl) (by kernel_rfl) (by kernel_rfl) (fun _ _ _ h=>h) (Or.inl ⟨by rfl,?_⟩) HS4 ?_
  ·intro w' hS
   obtain⟨s0,s1,s2,s3,s4,s5,s6,s7,s8,s9⟩:=hS
   go_simp
  simp only [Act.put,List.getElem_toArray,List.getElem_cons_zero,List.getElem_cons_succ,List.setIfInBounds_toArray,List.set_cons_zero,List.set_cons_succ]
  refine wpAnyH_done (by kernel_rfl) ?_ _
  go_wp2_with fail
  go_ret
  refine⟨(bnext HB2.out HB4.out).mono (by have:=HXq.out; omega),.inr ⟨fun e=>HD.out (HFT.out.mp e).1,rfl⟩⟩
end Go.Proofs.YtcbbcadfolgioaaDoor
