/-
  Texts of the proof, put together.
-/
import Derived.Test.YtcbbcadfolgioaaDoorPf09
namespace Go.Proofs.YtcbbcadfolgioaaDoor
section
open Go.RowKit Go.Joins RastMath PassMath
set_option maxHeartbeats 1600000 in
theorem specPassesOf_yes (r:Ras) (a:Option Addr) (cap:Nat) (w:World) (h:RasOk r) (hC:Came w a r.n r.f) (hcap:r.n≤cap) (hcm:cap≤maxLen):
  Calls Tryd.prog 19 #[rasA r a cap] w fun e w'=>∃ a' c',e=.returned (.tuple #[.slice a' 7 c',.bool true])∧RCame w' a' 7 (passesR r)∧Below w.heap.size w w':=by
 obtain⟨W,H,N,e0,e1,e2,hW,hH,hN,hn,ep⟩:=ras_parts h
 have hT:r.n≤1048576:=by
  have h1:=Nat.mul_le_mul hW.2 hH.2
  have h2:=Nat.mul_le_mul h1 hN.2
  omega
 have hok:∀ V,Came V a r.n r.f→Calls Tryd.prog 50 #[rasA r a cap] V fun e w'=>e=.returned (.bool true)∧Below V.heap.size V w':=fun V hV=>(specRaster r.x0 r.x1 r.x2 r.x3 a r.n cap r.f V hV hT).mono fun _ _ ⟨b,q1,q2,q3⟩=>⟨by rw [q1,q2.mpr h],q3⟩
 have hps:∀ V,Came V a r.n r.f→Calls Tryd.prog 51 #[rasA r a cap] V fun e w'=>∃ a' c',e=.returned (.slice a' 7 c')∧RCame w' a' 7 (passesR r)∧Below V.heap.size V w':=fun V hV=>by
  rw[ep]
  unfold rasA
  rw[e0,e1,hn]
  rw[hn] at hV hcap
  exact specPasses W H N r.x2 r.x3 a cap r.f V hW hH e2 hN hV hcap hcm
 have HC:=hid_of hC
 have HOK:=hid_of hok
 have HPS:=hid_of hps
 clear hC hok hps e0 e1 e2 hn ep hT hcap hcm h
 obtain⟨x0,x1,x2,x3,n,f⟩:=r
 go_enter Tryd.func19,Tryd.ntmps19
 go_wp2_with fail
 have HX:Hid ((w.alloc (.cells #[.int .i64 x0,.int .i64 x1,.int .i64 x2,.int .i64 x3,.slice a n cap] 26)).heap[w.heap.size]?=some (.cells #[.int .i64 x0,.int .i64 x1,.int .i64 x2,.int .i64 x3,.slice a n cap] 26 (0,0))):=heap_alloc_new w _
 have HB:=hid_of (bstart w (.cells #[.int .i64 x0,.int .i64 x1,.int .i64 x2,.int .i64 x3,.slice a n cap] 26))
 generalize w.alloc (.cells #[.int .i64 x0,.int .i64 x1,.int .i64 x2,.int .i64 x3,.slice a n cap] 26)=W1 at HX HB ⊢
 refine (HOK.out W1 (HC.out.called HB.out)).mono ?_
 rintro e w2 ⟨rfl,hB2⟩
 have HX2:=hid_of ((hB2.block _ (block_lt HX.out)).trans HX.out)
 have HB2:=hid_of (bnext HB.out hB2)
 clear hB2 HX HB HOK
 have k0:w2.cell? ⟨w.heap.size,0,none⟩=some (.int .i64 x0):=(cell_of_block HX2.out 0).trans rfl
 have k1:w2.cell? ⟨w.heap.size,1,none⟩=some (.int .i64 x1):=(cell_of_block HX2.out 1).trans rfl
 have k2:w2.cell? ⟨w.heap.size,2,none⟩=some (.int .i64 x2):=(cell_of_block HX2.out 2).trans rfl
 have k3:w2.cell? ⟨w.heap.size,3,none⟩=some (.int .i64 x3):=(cell_of_block HX2.out 3).trans rfl
 have k4:w2.cell? ⟨w.heap.size,4,none⟩=some (.slice a n cap):=(cell_of_block HX2.out 4).trans rfl
 have lx:=block_lt HX2.out
 go_wp2_with fail
 refine (HPS.out w2 (HC.out.called HB2.out)).mono ?_
 rintro e w3 ⟨a',c',rfl,hR,hB3⟩
 have HR:=hid_of hR
 have HB3:=hid_of (bnext HB2.out hB3)
 clear hR hB3
 go_wp2_with fail
 refine bodyPost_ret (v:=.tuple #[.slice a' 7 c',.bool true]) ?_ rfl ⟨_,_,rfl,HR.out,HB3.out⟩
 simp[results,Tryd.results19,go_sem]
set_option maxHeartbeats 1600000 in
theorem specPassesOf_no (r:Ras) (a:Option Addr) (cap:Nat) (w:World) (h:¬ RasOk r) (hC:Came w a r.n r.f) (hT:r.n≤1048576):
  Calls Tryd.prog 19 #[rasA r a cap] w fun e w'=>∃ a' c',e=.returned (.tuple #[.slice a' 0 c',.bool false])∧Below w.heap.size w w':=by
 have hok:∀ V,Came V a r.n r.f→Calls Tryd.prog 50 #[rasA r a cap] V fun e w'=>e=.returned (.bool false)∧Below V.heap.size V w':=fun V hV=>(specRaster r.x0 r.x1 r.x2 r.x3 a r.n cap r.f V hV hT).mono fun _ _ ⟨b,q1,q2,q3⟩=>⟨by
  cases b
  ·exact q1
  ·exact absurd (q2.mp rfl) h,q3⟩
 have HC:=hid_of hC
 have HOK:=hid_of hok
 clear hC hok hT h
 obtain⟨x0,x1,x2,x3,n,f⟩:=r
 go_enter Tryd.func19,Tryd.ntmps19
 go_wp2_with fail
 have HB:=hid_of (bstart w (.cells #[.int .i64 x0,.int .i64 x1,.int .i64 x2,.int .i64 x3,.slice a n cap] 26))
 generalize w.alloc (.cells #[.int .i64 x0,.int .i64 x1,.int .i64 x2,.int .i64 x3,.slice a n cap] 26)=W1 at HB ⊢
 refine (HOK.out W1 (HC.out.called HB.out)).mono ?_
 rintro e w2 ⟨rfl,hB2⟩
 have HB2:=hid_of (bal (bnext HB.out hB2) (.cells #[] 26))
 clear hB2 HB HOK
 go_wp2_with fail
 refine bodyPost_ret (v:=.tuple #[.slice (some ⟨w2.heap.size,0,none⟩) 0 0,.bool false]) ?_ rfl ⟨_,_,rfl,HB2.out⟩
 simp[results,Tryd.results19,go_sem]
end
section
open Go.RowKit Go.Joins
def SamePost (r s:Ras) (w:World) (e:Ending) (w':World):Prop:=∃ b,e=.returned (.bool b)∧(b=true↔r.same s)∧Below w.heap.size w w'
theorem same_no {r s:Ras} {w w':World} (h:¬ r.same s) (hb:Below w.heap.size w w'):SamePost r s w (.returned (.bool false)) w':=⟨false,rfl,⟨(fun e=>by cases e),fun k=>absurd k h⟩,hb⟩
theorem same_yes {r s:Ras} {w w':World} (h:r.same s) (hb:Below w.heap.size w w'):SamePost r s w (.returned (.bool true)) w':=⟨true,rfl,⟨fun _=>h,fun _=>rfl⟩,hb⟩
theorem bne_yes {a b:Int} (h:¬ a=b):(a != b)=true:=by simpa using h
theorem bne_no {a b:Int} (h:a=b):(a != b)=false:=by simpa using h
set_option maxRecDepth 100000 in
set_option maxHeartbeats 3200000 in
theorem specSame14 (r s:Ras) (a b:Option Addr) (c1 c2:Nat) (w:World) (ha:Came w a r.n r.f) (hb:Came w b s.n s.f) (hn:r.n≤1048576):
  Calls Tryd.prog 61 #[rasA r a c1,rasA s b c2] w (SamePost r s w):=by
 have HA:=hid_of ha
 have HB:=hid_of hb
 clear ha hb
 have HBW:Hid (Below w.heap.size w ((w.alloc (.cells #[.int .i64 r.x0,.int .i64 r.x1,.int .i64 r.x2,.int .i64 r.x3,.slice a r.n c1] 26)).alloc (.cells #[.int .i64 s.x0,.int .i64 s.x1,.int .i64 s.x2,.int .i64 s.x3,.slice b s.n c2] 26))):=bal (bstart _ _) _
 by_cases e0:r.x0=s.x0
 ·have b0:=bne_no e0
  by_cases e1:r.x1=s.x1
  ·have b1:=bne_no e1
   by_cases e2:r.x2=s.x2
   ·have b2:=bne_no e2
    by_cases e3:r.x3=s.x3
    ·have b3:=bne_no e3
     by_cases e4:r.n=s.n
     ·have b4:((r.n:Int) != (s.n:Int))=false:=bne_no (by omega)
      have HE:Hid ((∀ i,i < r.n→r.f i=s.f i)→r.same s):=fun h=>⟨e0,e1,e2,e3,e4,h⟩
      have HNE:Hid (∀ i,i < r.n→r.f i≠s.f i→¬ r.same s):=fun i hi hne h=>hne (h.2.2.2.2.2 i hi)
      have HN4:=hid_of e4
      clear e0 e1 e2 e3 e4
      go_enter Tryd.func61,Tryd.ntmps61
      go_wp2_with fail
      have HX:Hid (((w.alloc (.cells #[.int .i64 r.x0,.int .i64 r.x1,.int .i64 r.x2,.int .i64 r.x3,.slice a r.n c1] 26)).alloc (.cells #[.int .i64 s.x0,.int .i64 s.x1,.int .i64 s.x2,.int .i64 s.x3,.slice b s.n c2] 26)).heap[w.heap.size]?=some (.cells #[.int .i64 r.x0,.int .i64 r.x1,.int .i64 r.x2,.int .i64 r.x3,.slice a r.n c1] 26 (0,0))):=(Below.heap_alloc (w.alloc _) _ _ (by simp)).trans (heap_alloc_new w _)
      have HY:Hid (((w.alloc (.cells #[.int .i64 r.x0,.int .i64 r.x1,.int .i64 r.x2,.int .i64 r.x3,.slice a r.n c1] 26)).alloc (.cells #[.int .i64 s.x0,.int .i64 s.x1,.int .i64 s.x2,.int .i64 s.x3,.slice b s.n c2] 26)).heap[w.heap.size+1]?=some (.cells #[.int .i64 s.x0,.int .i64 s.x1,.int .i64 s.x2,.int .i64 s.x3,.slice b s.n c2] 26 (0,0))):=by
       have:=heap_alloc_new (w.alloc (.cells #[.int .i64 r.x0,.int .i64 r.x1,.int .i64 r.x2,.int .i64 r.x3,.slice a r.n c1] 26)) (.cells #[.int .i64 s.x0,.int .i64 s.x1,.int .i64 s.x2,.int .i64 s.x3,.slice b s.n c2] 26)
       rw[show (w.alloc (.cells #[.int .i64 r.x0,.int .i64 r.x1,.int .i64 r.x2,.int .i64 r.x3,.slice a r.n c1] 26)).heap.size=w.heap.size+1 by simp] at this
       exact this
      generalize (w.alloc (.cells #[.int .i64 r.x0,.int .i64 r.x1,.int .i64 r.x2,.int .i64 r.x3,.slice a r.n c1] 26)).alloc (.cells #[.int .i64 s.x0,.int .i64 s.x1,.int .i64 s.x2,.int .i64 s.x3,.slice b s.n c2] 26)=W2 at HX HY HBW ⊢
      clear b0 b1 b2 b3 b4
      go_loopw [5] (fun i w'=>∃ j:Nat,j≤r.n∧i=.int .i64 (j:Int)∧Hid (∀ i,i < j→r.f i=s.f i)∧Hid (Below W2.heap.size W2 w')) (fun i _=>r.n - (intOf i).toNat)
      case atStart=>exact⟨0,Nat.zero_le _,rfl,fun i hi=>absurd hi (Nat.not_lt_zero i),Below.refl _ _⟩
      case round=>
       obtain⟨j,hj,rfl,hall,hS⟩:=hrel
       have k4:wr.cell? ⟨w.heap.size,4,none⟩=some (.slice a r.n c1):=(hS.out.cell (p:=⟨w.heap.size,4,none⟩) (block_lt HX.out)).trans ((cell_of_block HX.out 4).trans rfl)
       have q4:wr.cell? ⟨w.heap.size+1,4,none⟩=some (.slice b s.n c2):=(hS.out.cell (p:=⟨w.heap.size+1,4,none⟩) (block_lt HY.out)).trans ((cell_of_block HY.out 4).trans rfl)
       have lk:w.heap.size < wr.heap.size:=Nat.lt_of_lt_of_le (block_lt HX.out) hS.out.size
       have lq:w.heap.size+1 < wr.heap.size:=Nat.lt_of_lt_of_le (block_lt HY.out) hS.out.size
       by_cases hlt:j < r.n
       ·have dl:decide ((j:Int) < (r.n:Int))=true:=decide_eq_true (by omega)
        have hlt2:j < s.n:=by rw [← HN4.out]; exact hlt
        rcases (HA.out.called HBW.out).called hS.out with q | ⟨g1,o1,rfl,hg1,hc1⟩
        ·omega
        rcases (HB.out.called HBW.out).called hS.out with q | ⟨g2,o2,rfl,hg2,hc2⟩
        ·omega
        have c1':=hc1 j hlt
        have c2':=hc2 j hlt2
        have x1:(j:Int) < (r.n:Int):=by omega
        have x2:(j:Int) < (s.n:Int):=by omega
        clear hc1 hc2
        obtain⟨P,hP⟩:∃ P,P=r.f j:=⟨_,rfl⟩
        obtain⟨Q,hQ⟩:∃ Q,Q=s.f j:=⟨_,rfl⟩
        rw[← hP] at c1'
        rw[← hQ] at c2'
        have HPQ:=hid_of (And.intro hP hQ)
        clear hP hQ
        by_cases hpq:P=Q
        ·have bq:=bne_no hpq
         have HALL:Hid (∀ i,i < j+1→r.f i=s.f i):=fun i hi=>by
          by_cases e:i=j
          ·rw[e,← HPQ.out.1,← HPQ.out.2,hpq]
          ·exact hall.out i (by omega)
         have HS2:Hid (Below W2.heap.size W2 wr.drew):=hS.out.drew
         clear hpq
         go_wp2_with fail
         go_region
         go_wp2_with fail
         go_roundw
         case rel=>exact⟨j+1,by omega,by go_num,HALL,HS2⟩
         case measure=>simp [intOf]; omega
        ·have bq:=bne_yes hpq
         have HF:Hid (¬ r.same s):=HNE.out j hlt (by rw [← HPQ.out.1,← HPQ.out.2]; exact hpq)
         have HS2:Hid (Below w.heap.size w wr.drew):=bnext HBW.out hS.out.drew
         clear hpq
         go_wp2_with fail
         go_region
         go_wp2_with fail
         go_ret
         exact same_no HF.out HS2.out
       ·obtain rfl:j=r.n:=by omega
        have dl:decide ((r.n:Int) < (r.n:Int))=false:=decide_eq_false (by omega)
        have HF:Hid (r.same s):=HE.out hall.out
        have HS2:Hid (Below w.heap.size w wr):=bnext HBW.out hS.out
        go_wp2_with fail
        go_ret
        exact same_yes HF.out HS2.out
     ·have b4:((r.n:Int) != (s.n:Int))=true:=bne_yes (by omega)
      have HF:Hid (¬ r.same s):=fun h=>e4 h.2.2.2.2.1
      clear e0 e1 e2 e3 e4
      go_enter Tryd.func61,Tryd.ntmps61
      go_wp2_with fail
      go_ret
      exact same_no HF.out HBW.out
    ·have b3:=bne_yes e3
     have HF:Hid (¬ r.same s):=fun h=>e3 h.2.2.2.1
     clear e0 e1 e2 e3
     go_enter Tryd.func61,Tryd.ntmps61
     go_wp2_with fail
     go_ret
     exact same_no HF.out HBW.out
   ·have b2:=bne_yes e2
    have HF:Hid (¬ r.same s):=fun h=>e2 h.2.2.1
    clear e0 e1 e2
    go_enter Tryd.func61,Tryd.ntmps61
    go_wp2_with fail
    go_ret
    exact same_no HF.out HBW.out
  ·have b1:=bne_yes e1
   have HF:Hid (¬ r.same s):=fun h=>e1 h.2.1
   clear e0 e1
   go_enter Tryd.func61,Tryd.ntmps61
   go_wp2_with fail
   go_ret
   exact same_no HF.out HBW.out
 ·have b0:=bne_yes e0
  have HF:Hid (¬ r.same s):=fun h=>e0 h.1
  clear e0
  go_enter Tryd.func61,Tryd.ntmps61
  go_wp2_with fail
  go_ret
  exact same_no HF.out HBW.out
end
section
open Go.RowKit Go.Joins PassMath
def FrmI (w w':World) (O S T:Nat) (x0 x1 x2 x3:Int) (J:Nat→Int) (D:Nat→Prop):Prop:=
 w'.heap[w.heap.size]?=some (.cells #[.int .i64 0,.int .i64 0,.int .i64 0,.int .i64 0,.slice none 0 0] 26 (0,0))∧
 w'.heap[O]?=some (.cells #[.int .i64 x0,.int .i64 x1,.int .i64 x2,.int .i64 x3,.slice (some ⟨S,0,none⟩) T T] 26 (0,0))∧w.heap.size < O∧S≠O∧
 (∃ h,IOwn w' (w.heap.size+1) S T T h∧∀ i,i < T→D i→h i=J i)∧Below w.heap.size w w'
section
variable {w w' w2:World} {O S T:Nat} {x0 x1 x2 x3:Int} {J:Nat→Int} {D D':Nat→Prop}
theorem FrmI.weaken (h:FrmI w w' O S T x0 x1 x2 x3 J D) (hD:∀ i,i < T→D' i→D i):FrmI w w' O S T x0 x1 x2 x3 J D':=by
 obtain⟨h1,h2,h3,h4,⟨k,hk,hj⟩,h5⟩:=h
 exact⟨h1,h2,h3,h4,⟨k,hk,fun i hi hd=>hj i hi (hD i hi hd)⟩,h5⟩
theorem FrmI.called (h:FrmI w w' O S T x0 x1 x2 x3 J D) (hb:Below w'.heap.size w' w2):FrmI w w2 O S T x0 x1 x2 x3 J D:=by
 obtain⟨h1,h2,h3,h4,⟨k,hk,hj⟩,h5⟩:=h
 exact⟨(hb.block _ (block_lt h1)).trans h1,(hb.block _ (block_lt h2)).trans h2,h3,h4,⟨k,hk.called hb,hj⟩,bnext h5 hb⟩
theorem FrmI.set (h:FrmI w w' O S T x0 x1 x2 x3 J D) {m:Nat} (hm:m < T):FrmI w ((w'.setCell ⟨S,m,none⟩ (.int .i64 (J m))).drew) O S T x0 x1 x2 x3 J (fun i=>D i∨i=m):=by
 obtain⟨h1,h2,h3,h4,⟨k,hk,hj⟩,h5⟩:=h
 have hS:=hk.base_le
 refine⟨?_,?_,h3,h4,⟨upd k m (J m),(hk.set m hm (J m)).drew,fun i hi hd=>?_⟩,?_⟩
 ·exact (heap_setCell_other w' ⟨S,m,none⟩ _ _ (by show ¬ w.heap.size=S; omega)).trans h1
 ·exact (heap_setCell_other w' ⟨S,m,none⟩ _ _ (by show ¬ O=S; exact fun e=>h4 e.symm)).trans h2
 ·unfold upd
  by_cases e:i=m
  ·rw[if_pos e,e]
  ·rw[if_neg e]
   rcases hd with hd | hd
   ·exact hj i hi hd
   ·exact absurd hd e
 ·exact (Below.setCell (p:=⟨S,m,none⟩) h5 (by show w.heap.size≤S; omega) _).drew
theorem FrmI.cells (h:FrmI w w' O S T x0 x1 x2 x3 J D):w'.cell? ⟨O,0,none⟩=some (.int .i64 x0)∧w'.cell? ⟨O,1,none⟩=some (.int .i64 x1)∧w'.cell? ⟨O,2,none⟩=some (.int .i64 x2)∧w'.cell? ⟨O,3,none⟩=some (.int .i64 x3)∧w'.cell? ⟨O,4,none⟩=some (.slice (some ⟨S,0,none⟩) T T)∧O < w'.heap.size:=
 ⟨(cell_of_block h.2.1 0).trans rfl,(cell_of_block h.2.1 1).trans rfl,(cell_of_block h.2.1 2).trans rfl,(cell_of_block h.2.1 3).trans rfl,(cell_of_block h.2.1 4).trans rfl,block_lt h.2.1⟩
theorem FrmI.zero (h:FrmI w w' O S T x0 x1 x2 x3 J D):w'.cell? ⟨w.heap.size,0,none⟩=some (.int .i64 0)∧w'.cell? ⟨w.heap.size,1,none⟩=some (.int .i64 0)∧w'.cell? ⟨w.heap.size,2,none⟩=some (.int .i64 0)∧w'.cell? ⟨w.heap.size,3,none⟩=some (.int .i64 0)∧w'.cell? ⟨w.heap.size,4,none⟩=some (.slice none 0 0)∧(∀ k,w'.frozen? ⟨w.heap.size,k,none⟩=false)∧w.heap.size < w'.heap.size:=
 ⟨(cell_of_block h.1 0).trans rfl,(cell_of_block h.1 1).trans rfl,(cell_of_block h.1 2).trans rfl,(cell_of_block h.1 3).trans rfl,(cell_of_block h.1 4).trans rfl,fun k=>by simp [World.frozen?,h.1],block_lt h.1⟩
theorem FrmI.sample (h:FrmI w w' O S T x0 x1 x2 x3 J D) {m:Nat} (hm:m < T):(∃ z,w'.cell? ⟨S,m,none⟩=some (.int .i64 z))∧w'.frozen? ⟨S,m,none⟩=false∧S < w'.heap.size∧w.heap.size < S:=by
 obtain⟨h1,h2,h3,h4,⟨k,hk,hj⟩,h5⟩:=h
 exact⟨⟨_,hk.cell m hm⟩,hk.free m hm,hk.lt,hk.base_le⟩
theorem FrmI.own (h:FrmI w w' O S T x0 x1 x2 x3 J D) (hD:∀ i,i < T→D i):IOwn w' (w.heap.size+1) S T T J:=by
 obtain⟨h1,h2,h3,h4,⟨k,hk,hj⟩,h5⟩:=h
 exact hk.congr (fun i hi=>hj i hi (hD i hi))
end
theorem frm_made1 {w V0:World} {T:Nat} {x0 x1 x2 x3:Int} {J:Nat→Int} (hB:Below w.heap.size w V0) (hz:V0.heap[w.heap.size]?=some (.cells #[.int .i64 0,.int .i64 0,.int .i64 0,.int .i64 0,.slice none 0 0] 26 (0,0))) (hT:T≤maxLen):
  FrmI w ((V0.alloc (.cells (madeCells #[Value.int .i64 0] T) 3)).alloc (.cells #[.int .i64 x0,.int .i64 x1,.int .i64 x2,.int .i64 x3,.slice (some ⟨V0.heap.size,0,none⟩) T T] 26)) (V0.heap.size+1) V0.heap.size T x0 x1 x2 x3 J (fun _=>False):=by
 have hl:=block_lt hz
 refine⟨?_,?_,by omega,by omega,⟨fun _=>0,(IOwn.made V0 T hT (by omega)).alloc _,fun i _ h=>h.elim⟩,bal (bal hB _) _⟩
 ·rw[Below.heap_alloc _ _ _ (by simp; omega),Below.heap_alloc _ _ _ hl]
  exact hz
 ·have:=heap_alloc_new (V0.alloc (.cells (madeCells #[Value.int .i64 0] T) 3)) (.cells #[.int .i64 x0,.int .i64 x1,.int .i64 x2,.int .i64 x3,.slice (some ⟨V0.heap.size,0,none⟩) T T] 26)
  rw[show (V0.alloc (.cells (madeCells #[Value.int .i64 0] T) 3)).heap.size=V0.heap.size+1 by simp] at this
  exact this
theorem frm_made2 {w V0:World} {T:Nat} {x0 x1 x2 x3:Int} {J:Nat→Int} (hB:Below w.heap.size w V0) (hz:V0.heap[w.heap.size]?=some (.cells #[.int .i64 0,.int .i64 0,.int .i64 0,.int .i64 0,.slice none 0 0] 26 (0,0))) (hT:T≤maxLen):
  FrmI w ((V0.alloc (.cells #[.int .i64 x0,.int .i64 x1,.int .i64 x2,.int .i64 x3,.slice (some ⟨V0.heap.size+1,0,none⟩) T T] 26)).alloc (.cells (madeCells #[Value.int .i64 0] T) 3)) V0.heap.size (V0.heap.size+1) T x0 x1 x2 x3 J (fun _=>False):=by
 have hl:=block_lt hz
 have e:(V0.alloc (.cells #[.int .i64 x0,.int .i64 x1,.int .i64 x2,.int .i64 x3,.slice (some ⟨V0.heap.size+1,0,none⟩) T T] 26)).heap.size=V0.heap.size+1:=by simp
 refine⟨?_,?_,by omega,by omega,⟨fun _=>0,?_,fun i _ h=>h.elim⟩,bal (bal hB _) _⟩
 ·rw[Below.heap_alloc _ _ _ (by simp; omega),Below.heap_alloc _ _ _ hl]
  exact hz
 ·rw[Below.heap_alloc _ _ _ (by simp)]
  exact heap_alloc_new V0 _
 ·have:=IOwn.made (base:=w.heap.size+1) (V0.alloc (.cells #[.int .i64 x0,.int .i64 x1,.int .i64 x2,.int .i64 x3,.slice (some ⟨V0.heap.size+1,0,none⟩) T T] 26)) T hT (by rw [e]; omega)
  rw[e] at this
  exact this
def doneM (W H N p k m:Nat):Prop:=pasM W N m < p∨(pasM W N m=p∧idxM W H N m < k)
end
end Go.Proofs.YtcbbcadfolgioaaDoor
