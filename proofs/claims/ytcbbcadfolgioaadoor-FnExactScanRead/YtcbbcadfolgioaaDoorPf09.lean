/-
  Texts of the proof, put together.
-/
import Derived.Test.YtcbbcadfolgioaaDoorPf08
namespace Go.Proofs.YtcbbcadfolgioaaDoor
open Go.RowKit Go.Joins RastMath PassMath
theorem info_ras14:(Tryd.prog.info? 26).map (fun i=>(i.zero,i.size,i.bytes))=some (some (.agg #[.int .i64 0,.int .i64 0,.int .i64 0,.int .i64 0,.slice none 0 0]),5,56):=by kernel_rfl
set_option maxRecDepth 100000 in
set_option maxHeartbeats 6400000 in
theorem specPasses (W H N:Nat) (x2 x3:Int) (a:Option Addr) (cap:Nat) (f:Nat→Int) (w:World) (hW:1≤W∧W≤24) (hH:1≤H∧H≤24) (hN:chan x2=(N:Int)) (hN1:1≤N∧N≤4) (hC:Came w a (W * H * N) f) (hcap:W * H * N≤cap) (hcm:cap≤maxLen):
  Calls Tryd.prog 51 #[.agg #[.int .i64 (W:Int),.int .i64 (H:Int),.int .i64 x2,.int .i64 x3,.slice a (W * H * N) cap]] w fun e w'=>∃ a' c',e=.returned (.slice a' 7 c')∧RCame w' a' 7 (passR W H x2 x3 N f)∧Below w.heap.size w w':=by
 obtain⟨T,hT⟩:∃ T,T=W * H * N:=⟨_,rfl⟩
 have hTpos:1≤T:=by rw [hT]; exact Nat.mul_pos (Nat.mul_pos (by omega) (by omega)) (by omega)
 have hTle:T≤2304:=by
  have h1:=Nat.mul_le_mul hW.2 hH.2
  have h2:=Nat.mul_le_mul h1 hN1.2
  rw[hT]
  exact Nat.le_trans h2 (by omega)
 rw[← hT] at hC hcap ⊢
 obtain⟨g,off,rfl,hg,hcell⟩:∃ g off,a=some ⟨g,off,none⟩∧g < w.heap.size∧∀ j,j < T→w.cell? ⟨g,off+j,none⟩=some (.int .i64 (f j)):=by
  rcases hC with h | h
  ·omega
  ·exact h
 have HT:=hid_of hT
 have HCL:=hid_of hcell
 have hch:=fun V=>specChannels x2 V
 rw[hN] at hch
 have HPS:Hid (∀ (p:Nat),p < 7→∀ V,Calls Tryd.prog 59 #[.int .i64 (W:Int),.int .i64 (H:Int),.int .i64 (p:Int)] V fun e w'=>e=.returned (.tuple #[.int .i64 (pw W H p:Int),.int .i64 (ph W H p:Int)])∧w'=V):=fun p hp V=>specPassSize_in W H p V hW hH hp
 have HST:Hid (∀ (p:Nat),p < 7→∀ V,Calls Tryd.prog 60 #[.int .i64 (p:Int)] V fun e w'=>e=.returned (.tuple #[.int .i64 (px p:Int),.int .i64 (py p:Int),.int .i64 (pdx p:Int),.int .i64 (pdy p:Int)])∧w'=V):=fun p hp V=>by
  have:=specPassStep (p:Int) V
  unfold stepT at this
  rw[stepV_nat px hp,stepV_nat py hp,stepV_nat pdx hp,stepV_nat pdy hp] at this
  exact this
 have H0:Hid (PassI w ((w.alloc (.cells #[.int .i64 (W:Int),.int .i64 (H:Int),.int .i64 x2,.int .i64 x3,.slice (some ⟨g,off,none⟩) T cap] 26)).alloc (.cells #[] 26)) W H N x2 x3 f (.slice (some ⟨g,off,none⟩) T cap) (w.heap.size+1) 0 0):=passI_start w W H N x2 x3 f _
 unfold maxLen at hcm
 clear hT hC hcell
 go_enter Tryd.func51,Tryd.ntmps51
 go_wp2_with fail
 refine (hch _).mono ?_
 rintro e w1 ⟨rfl,rfl⟩
 clear hch
 generalize ((w.alloc (.cells #[.int .i64 (W:Int),.int .i64 (H:Int),.int .i64 x2,.int .i64 x3,.slice (some ⟨g,off,none⟩) T cap] 26)).alloc (.cells #[] 26))=W0 at H0 ⊢
 go_wp2_with fail
 go_loopg [3,5] 8 (fun gk v i w'=>∃ (p gl cl:Nat),p≤7∧7 - p≤gk∧i=.int .i64 (p:Int)∧v=.slice (some ⟨gl,0,none⟩) p cl∧Hid (PassI w w' W H N x2 x3 f (.slice (some ⟨g,off,none⟩) T cap) gl cl p))
 case atStart=>exact⟨0,_,_,Nat.zero_le _,by omega,rfl,rfl,H0⟩
 case round=>
  clear H0
  obtain⟨p,gl,cl,hp,hgk,rfl,rfl,hS⟩:=hrel
  by_cases hlt:p < 7
  ·have dl:decide ((p:Int) < 7)=true:=decide_eq_true (by omega)
   have hps:=HPS.out p hlt
   have hst:=HST.out p hlt
   obtain⟨k0,k1,k2,k3,k4,lb⟩:=hS.out.box
   go_wp2_with fail
   refine (hps _).mono ?_
   rintro e w1 ⟨rfl,rfl⟩
   go_wp2_with fail
   refine (hst _).mono ?_
   rintro e w1 ⟨rfl,rfl⟩
   go_wp2_with fail
   obtain⟨bx,⟨A,G,C,hL,hR,hne⟩,hB1⟩:=hS.out
   have HBX:=hid_of bx
   have HL:=hid_of hL
   have HR:=hid_of hR
   have HNE:=hid_of hne
   have HB1:=hid_of hB1
   have hglt:gl < w1.heap.size:=by
    rcases hL.2 with ⟨e,_⟩ | ⟨g,c,cur,e,_,q,_⟩
    ·cases e
    ·cases e
     exact block_lt q
   clear bx hL hR hne hB1 hps hst
   have b1:=pdx_pos hlt
   have b2:=pdy_pos hlt
   have b3:=px_le hlt
   have b4:=pw_le W H p
   have b5:=ph_le W H p
   have HCOL:Hid (∀ i,i < pw W H p→px p+i * pdx p < W):=fun i hi=>col_lt hlt hi
   have HROW:Hid (∀ j,j < ph W H p→py p+j * pdy p < H):=fun j hj=>row_lt hlt hj
   have HF:Hid (∀ i j c,i < pw W H p→j < ph W H p→c < N→passF W H N f p ((j * pw W H p+i) * N+c)=f (((py p+j * pdy p) * W+(px p+i * pdx p)) * N+c)):=fun i j c hi hj hc=>pass_at hi hc
   have HI0:Hid (RowI w1 (w1.alloc (.cells #[.int .i64 (pw W H p:Int),.int .i64 (ph W H p:Int),.int .i64 x2,.int .i64 x3,.slice none 0 0] 26)) (pw W H p:Int) (ph W H p:Int) x2 x3 (passF W H N f p) 0):=rowI_start w1 _ _ _ _ _
   have HX:Hid (∀ w6 w5 vr g' cap' o,w5.ownsRow (w1.heap.size+1) 3 1 vr (pw W H p * ph W H p * N) (fints (passF W H N f p) (pw W H p * ph W H p * N))→Below w1.heap.size w1 w5→w6.ownsRow (w.heap.size+1) 26 5 (.slice (some ⟨g',0,none⟩) (p+1) cap') (p+1) (rcells (passR W H x2 x3 N f) A C p ++ [.int .i64 (pw W H p:Int),.int .i64 (ph W H p:Int),.int .i64 x2,.int .i64 x3,vr])→(w5.alloc o).grownBy w6 (some gl)→(some gl=some g'∨g'=(w5.alloc o).heap.size)→PassI w w6 W H N x2 x3 f (.slice (some ⟨g,off,none⟩) T cap) g' cap' (p+1)):=fun w6 w5 vr g' cap' o q1 q2 q3 q4 q5=>passI_next HBX.out HL.out HR.out HNE.out HB1.out q1 q2 q3 q4 q5
   generalize w1.alloc (.cells #[.int .i64 (pw W H p:Int),.int .i64 (ph W H p:Int),.int .i64 x2,.int .i64 x3,.slice none 0 0] 26)=W1 at HI0 ⊢
   generalize hFq:passF W H N f p=F at HF HI0 HX
   clear hFq
   generalize pw W H p=PW at *
   generalize ph W H p=PH at *
   generalize px p=PX at *
   generalize py p=PY at *
   generalize pdx p=DX at *
   generalize pdy p=DY at *
   go_loopg [13] (PH+1) (fun gk i w'=>∃ (j:Nat),j≤PH∧PH - j≤gk∧i=.int .i64 (j:Int)∧Hid (RowI w1 w' (PW:Int) (PH:Int) x2 x3 F (j * PW * N)))
   case atStart=>exact⟨0,Nat.zero_le _,by omega,rfl,by simpa using HI0⟩
   case round=>
    clear HI0
    obtain⟨j,hj,hgk2,rfl,hI⟩:=hrel
    by_cases hlj:j < PH
    ·have dlj:decide ((j:Int) < (PH:Int))=true:=decide_eq_true (by omega)
     have hrow:=HROW.out j hlj
     obtain⟨jd,hjd⟩:∃ jd,jd=j * DY:=⟨_,rfl⟩
     have e1:(j:Int) * (DY:Int)=(jd:Int):=by rw [hjd]; simp
     rw[← hjd] at hrow
     obtain⟨yw,hyw⟩:∃ yw,yw=(PY+jd) * W:=⟨_,rfl⟩
     have e2:((PY:Int)+(jd:Int)) * (W:Int)=(yw:Int):=by rw [hyw]; simp
     have hyw1:yw≤600:=by
      have:=Nat.mul_le_mul (show PY+jd≤24 by omega) hW.2
      omega
     have HJD:=hid_of (And.intro hjd hyw)
     clear hjd hyw
     go_wp2_with fail
     go_loopg [14] (PW+1) (fun gk i w'=>∃ (q:Nat),q≤PW∧PW - q≤gk∧i=.int .i64 (q:Int)∧Hid (RowI w1 w' (PW:Int) (PH:Int) x2 x3 F ((j * PW+q) * N)))
     case atStart=>exact⟨0,Nat.zero_le _,by omega,rfl,by simpa using hI⟩
     case round=>
      clear hI
      obtain⟨q,hq,hgk3,rfl,hI⟩:=hrel
      by_cases hlq:q < PW
      ·have dlq:decide ((q:Int) < (PW:Int))=true:=decide_eq_true (by omega)
       have hcol:=HCOL.out q hlq
       obtain⟨id,hid⟩:∃ id,id=q * DX:=⟨_,rfl⟩
       have e3:(q:Int) * (DX:Int)=(id:Int):=by rw [hid]; simp
       rw[← hid] at hcol
       obtain⟨AT,hAT⟩:∃ AT,AT=(yw+PX+id) * N:=⟨_,rfl⟩
       have e4:((yw:Int)+(PX:Int)+(id:Int)) * (N:Int)=(AT:Int):=by rw [hAT]; simp
       have HATF:Hid (∀ c,c < N→F ((j * PW+q) * N+c)=f (AT+c)):=fun c hc=>by
        rw[HF.out q j c hlq hlj hc,hAT,← hid,← HJD.out.1,← HJD.out.2,Nat.add_assoc]
       have hATT:AT+N≤T:=by
        have:=pix_lt (n:=N) (W:=W) (H:=H) (X:=PX+id) (Y:=PY+jd) (c:=N - 1) (by omega) hcol hrow
        rw[HT.out,hAT,HJD.out.2,Nat.add_assoc]
        omega
       clear hAT hid
       obtain⟨vr,hb,hO,hBw⟩:=hI.out
       have hvq:=own_block_le hO
       have HO:=hid_of hO
       have HBw:=hid_of hBw
       have HPB:=hid_of hb
       have HK1:Hid (wr.heap[w.heap.size]?=some (.cells #[.int .i64 (W:Int),.int .i64 (H:Int),.int .i64 x2,.int .i64 x3,.slice (some ⟨g,off,none⟩) T cap] 26 (0,0))):=(hBw.block _ (block_lt HBX.out)).trans HBX.out
       have k0:wr.cell? ⟨w.heap.size,0,none⟩=some (.int .i64 (W:Int)):=(cell_of_block HK1.out 0).trans rfl
       have k4:wr.cell? ⟨w.heap.size,4,none⟩=some (.slice (some ⟨g,off,none⟩) T cap):=(cell_of_block HK1.out 4).trans rfl
       have lb:w.heap.size < wr.heap.size:=block_lt HK1.out
       have m4:wr.cell? ⟨w1.heap.size,4,none⟩=some vr:=(cell_of_block hb 4).trans rfl
       have mf:wr.frozen? ⟨w1.heap.size,4,none⟩=false:=by simp [World.frozen?,hb]
       have ml:w1.heap.size < wr.heap.size:=block_lt hb
       have hbne:¬ w.heap.size=w1.heap.size:=by have:=block_lt HBX.out; omega
       have hkle:(j * PW+q) * N+N≤3000:=by
        have h1:=Nat.mul_le_mul (show j+1≤24 by omega) (show PW≤24 by omega)
        rw[Nat.add_mul,Nat.one_mul] at h1
        have h2:=Nat.mul_le_mul (show j * PW+q+1≤576 by omega) hN1.2
        rw[Nat.add_mul (j * PW+q),Nat.one_mul] at h2
        omega
       have HNEWS:Hid (∀ c u,((List.range N).map fun c=>Value.int .i64 (F ((j * PW+q) * N+c)))[c]?=some u→wr.drew.cell? ((⟨g,off+AT,none⟩:Addr).add c)=some u):=fun c u hu=>by
        have hc:c < N:=by
         rcases Nat.lt_or_ge c N with h | h
         ·exact h
         ·rw[List.getElem?_eq_none (by simpa using h)] at hu; cases hu
        rw[List.getElem?_map,List.getElem?_range hc] at hu
        have hu2:some (Value.int .i64 (F ((j * PW+q) * N+c)))=some u:=hu
        rw[← hu2,HATF.out c hc]
        rw[Addr.add_lit]
        show wr.cell? ⟨g,off+AT+c,none⟩=_
        rw[Nat.add_assoc,(HBw.out.cell (p:=⟨g,off+(AT+c),none⟩) (Nat.lt_of_lt_of_le hg HB1.out.size)),(HB1.out.cell (p:=⟨g,off+(AT+c),none⟩) hg)]
        exact HCL.out (AT+c) (by omega)
       have v7:IntKind.i64.wrap ((AT:Int)+(N:Int))=(AT:Int)+(N:Int):=by rw [IntKind.wrap_i64]; omega
       have z1:((AT:Int)+(N:Int)).toNat=AT+N:=by omega
       have z2:(AT:Int)≤(AT:Int)+(N:Int):=by omega
       have z3:(AT:Int)+(N:Int)≤(cap:Int):=by omega
       have z4:AT+N - AT=N:=by omega
       have z5:(0:Int)≤(AT:Int)+(N:Int):=by omega
       have z6:¬ (AT+N=AT):=by omega
       have z7:¬ (cap=AT):=by omega
       clear hb hO hBw
       go_wp2_with fail
       refine wp_region_held (S:=fun u=>u.cell? ⟨w.heap.size,4,none⟩=some (.slice (some ⟨g,off,none⟩) T cap)∧w.heap.size < u.heap.size) (by kernel_rfl) ?_
       show wpAnyH _ _ _ _ _ _ _ _ wr.drew
       have HS:wr.drew.cell? ⟨w.heap.size,4,none⟩=some (.slice (some ⟨g,off,none⟩) T cap)∧w.heap.size < wr.drew.heap.size:=⟨k4,lb⟩
       refine wpAnyH_take (i:=0) (v:=.pointer (some ⟨w1.heap.size,4,none⟩)) rfl (by kernel_rfl) (by kernel_rfl) (by kernel_rfl) (fun _ _ _ h=>h) (Or.inl ⟨by rfl,?_⟩) HS ?_
       ·intro w' hS
        obtain⟨s0,s1⟩:=hS
        go_simp
       simp only [Act.put,List.getElem_toArray,List.getElem_cons_zero,List.setIfInBounds_toArray,List.set_cons_zero,List.set_cons_succ]
       refine wpAnyH_take (i:=2) (v:=.pointer (some ⟨w.heap.size,4,none⟩)) rfl (by kernel_rfl) (by kernel_rfl) (by kernel_rfl) (fun _ _ _ h=>h) (Or.inl ⟨by rfl,?_⟩) HS ?_
       ·intro w' hS
        obtain⟨s0,s1⟩:=hS
        go_simp
       simp only [Act.put,List.getElem_toArray,List.getElem_cons_zero,List.getElem_cons_succ,List.setIfInBounds_toArray,List.set_cons_zero,List.set_cons_succ]
       refine wpAnyH_take (i:=3) (v:=.slice (some ⟨g,off,none⟩) T cap) rfl (by kernel_rfl) (by kernel_rfl) (by kernel_rfl) (fun _ _ _ h=>h) (Or.inl ⟨by rfl,?_⟩) HS ?_
       ·intro w' hS
        obtain⟨s0,s1⟩:=hS
        go_simp
       simp only [Act.put,List.getElem_toArray,List.getElem_cons_zero,List.getElem_cons_succ,List.setIfInBounds_toArray,List.set_cons_zero,List.set_cons_succ]
       refine wpAnyH_take (i:=4) (v:=.int .i64 (AT:Int)) rfl (by kernel_rfl) (by kernel_rfl) (by kernel_rfl) (fun _ _ _ h=>h) (Or.inl ⟨by rfl,?_⟩) HS ?_
       ·intro w' hS
        obtain⟨s0,s1⟩:=hS
        go_simp
       simp only [Act.put,List.getElem_toArray,List.getElem_cons_zero,List.getElem_cons_succ,List.setIfInBounds_toArray,List.set_cons_zero,List.set_cons_succ]
       refine wpAnyH_take (i:=5) (v:=.int .i64 (AT:Int)) rfl (by kernel_rfl) (by kernel_rfl) (by kernel_rfl) (fun _ _ _ h=>h) (Or.inl ⟨by rfl,?_⟩) HS ?_
       ·intro w' hS
        obtain⟨s0,s1⟩:=hS
        go_simp
       simp only [Act.put,List.getElem_toArray,List.getElem_cons_zero,List.getElem_cons_succ,List.setIfInBounds_toArray,List.set_cons_zero,List.set_cons_succ]
       refine wpAnyH_take (i:=6) (v:=.int .i64 (N:Int)) rfl (by kernel_rfl) (by kernel_rfl) (by kernel_rfl) (fun _ _ _ h=>h) (Or.inl ⟨by rfl,?_⟩) HS ?_
       ·intro w' hS
        obtain⟨s0,s1⟩:=hS
        go_simp
       simp only [Act.put,List.getElem_toArray,List.getElem_cons_zero,List.getElem_cons_succ,List.setIfInBounds_toArray,List.set_cons_zero,List.set_cons_succ]
       refine wpAnyH_take (i:=7) (v:=.int .i64 ((AT:Int)+(N:Int))) rfl (by kernel_rfl) (by kernel_rfl) (by kernel_rfl) (fun _ _ _ h=>h) (Or.inl ⟨by rfl,?_⟩) HS ?_
       ·intro w' hS
        obtain⟨s0,s1⟩:=hS
        go_simp
       simp only [Act.put,List.getElem_toArray,List.getElem_cons_zero,List.getElem_cons_succ,List.setIfInBounds_toArray,List.set_cons_zero,List.set_cons_succ]
       refine wpAnyH_take (i:=8) (v:=.slice (some ⟨g,off+AT,none⟩) N (cap - AT)) rfl (by kernel_rfl) (by kernel_rfl) (by kernel_rfl) (fun _ _ _ h=>h) (Or.inl ⟨by rfl,?_⟩) HS ?_
       ·intro w' hS
        obtain⟨s0,s1⟩:=hS
        go_simp
       simp only [Act.put,List.getElem_toArray,List.getElem_cons_zero,List.getElem_cons_succ,List.setIfInBounds_toArray,List.set_cons_zero,List.set_cons_succ]
       refine wpAnyH_ready (rs:=[1]) (by kernel_rfl) (by simp) ?_
       refine AllReadyH.cons rfl (fun K hK=>?_) AllReadyH.nil
       refine if_wanted (wanted_none rfl) ?_
       simp only [List.getElem_toArray,List.getElem_cons_zero,List.getElem_cons_succ]
       go_simp
       refine hK.out _ _ HS (fun HS=>?_)
       clear hK K
       refine wpAnyH_ready (rs:=[9]) (by kernel_rfl) (by simp) ?_
       refine AllReadyH.cons rfl (fun K hK=>?_) AllReadyH.nil
       refine if_wanted (wanted_none rfl) ?_
       simp only [List.getElem_toArray,List.getElem_cons_zero,List.getElem_cons_succ]
       obtain⟨i0,hi0,hz0,hz1,hz2⟩:=info_parts info_made
       refine wp_append_lies _ (.tmp 74) (.tmp 81) 24 rfl (w1.heap.size+1) 3 i0 _ 1 8 Tryd.underlying24 hi0 hz0 hz1 hz2 rfl (by omega) vr ((j * PW+q) * N) (fints F ((j * PW+q) * N)) (by rfl) (by exact HO.out) ⟨g,off+AT,none⟩ N (cap - AT) ((List.range N).map fun c=>.int .i64 (F ((j * PW+q) * N+c))) (by rfl) (by simp) (by exact HNEWS.out) (by simp [Value.oneCell']) (by omega) (by unfold maxLen; omega) (by omega) (by exact ml) _ rfl ?_
       intro g' cap' w3 y1 y2 y3 y4
       have HS6:Hid (RowI w1 (w3.setCell ⟨w1.heap.size,4,none⟩ (.slice (some ⟨g',0,none⟩) ((j * PW+q) * N+N) cap')) (PW:Int) (PH:Int) x2 x3 F ((j * PW+q) * N+N)):=rowI_next HPB.out HBw.out hvq y1 ⟨y2.1,y2.2,y2.3,y2.4,y2.5⟩
       have HS3:w3.cell? ⟨w.heap.size,4,none⟩=some (.slice (some ⟨g,off,none⟩) T cap)∧w.heap.size < w3.heap.size:=by
        have hb3:w3.heap[w.heap.size]?=wr.heap[w.heap.size]?:=y2.block _ (by exact lb) (fun e=>by have:=hvq _ e.symm; omega)
        exact⟨(World.cell?_of_block (a:=⟨w.heap.size,4,none⟩) hb3).trans k4,Nat.lt_of_lt_of_le lb y2.size⟩
       have hb5:w3.heap[w1.heap.size]?=wr.heap[w1.heap.size]?:=y2.block _ (by exact ml) (fun e=>by have:=hvq _ e.symm; omega)
       have n4:w3.cell? ⟨w1.heap.size,4,none⟩=some vr:=(World.cell?_of_block (a:=⟨w1.heap.size,4,none⟩) hb5).trans m4
       have nf:w3.frozen? ⟨w1.heap.size,4,none⟩=false:=(World.frozen?_of_block (a:=⟨w1.heap.size,4,none⟩) hb5).trans mf
       have nl:w1.heap.size < w3.heap.size:=Nat.lt_of_lt_of_le ml y2.size
       clear y1 y2 y3 y4 HS hb5
       refine hK.out _ _ HS3 (fun HS=>?_)
       clear hK K HS3
       refine wpAnyH_take (i:=10) (v:=.pointer (some ⟨w1.heap.size,4,none⟩)) rfl (by kernel_rfl) (by kernel_rfl) (by kernel_rfl) (fun _ _ _ h=>h) (Or.inl ⟨by rfl,?_⟩) HS ?_
       ·intro w' hS
        obtain⟨s0,s1⟩:=hS
        go_simp
       simp only [Act.put,List.getElem_toArray,List.getElem_cons_zero,List.getElem_cons_succ,List.setIfInBounds_toArray,List.set_cons_zero,List.set_cons_succ]
       refine wpAnyH_ready (rs:=[11]) (by kernel_rfl) (by simp) ?_
       refine AllReadyH.cons rfl (fun K hK=>?_) AllReadyH.nil
       refine if_wanted (wanted_none rfl) ?_
       simp only [List.getElem_toArray,List.getElem_cons_zero,List.getElem_cons_succ]
       go_simp
       refine hK.out _ _ ⟨by rw [World.cell?_setCell_other _ _ _ _ (by intro e; exact hbne (congrArg Addr.block e).symm)]; exact HS.1,by simp; exact HS.2⟩ (fun _=>?_)
       clear hK K
       refine wpAnyH_done (by kernel_rfl) ?_ _
       go_wp2_with fail
       go_roundg (PW - (q+1))
       case measure=>omega
       case rel=>exact⟨q+1,by omega,Nat.le_refl _,by go_num,by rw [show (j * PW+(q+1)) * N=(j * PW+q) * N+N by rw [← Nat.add_assoc,Nat.add_mul (j * PW+q),Nat.one_mul]]; exact HS6⟩
      ·obtain rfl:q=PW:=by omega
       have dlq:decide ((q:Int) < (q:Int))=false:=decide_eq_false (by omega)
       go_wp2_with fail
       go_roundg (PH - (j+1))
       case measure=>omega
       case rel=>exact⟨j+1,by omega,Nat.le_refl _,by go_num,by rw [Nat.add_mul,Nat.one_mul]; exact hI⟩
    ·obtain rfl:j=PH:=by omega
     have dlj:decide ((j:Int) < (j:Int))=false:=decide_eq_false (by omega)
     obtain⟨vr,hb,hO,hBw⟩:=hI.out
     have m0:wr.cell? ⟨w1.heap.size,0,none⟩=some (.int .i64 (PW:Int)):=(cell_of_block hb 0).trans rfl
     have m1:wr.cell? ⟨w1.heap.size,1,none⟩=some (.int .i64 (j:Int)):=(cell_of_block hb 1).trans rfl
     have m2:wr.cell? ⟨w1.heap.size,2,none⟩=some (.int .i64 x2):=(cell_of_block hb 2).trans rfl
     have m3:wr.cell? ⟨w1.heap.size,3,none⟩=some (.int .i64 x3):=(cell_of_block hb 3).trans rfl
     have m4:wr.cell? ⟨w1.heap.size,4,none⟩=some vr:=(cell_of_block hb 4).trans rfl
     have ml:w1.heap.size < wr.heap.size:=block_lt hb
     have hone:vr.oneCell'=true:=by
      rcases hO.2 with ⟨rfl,_⟩ | ⟨_,_,_,rfl,_⟩ <;> rfl
     rw[Nat.mul_comm j PW] at hO
     have HY:Hid (∀ w6 g' cap',w6.ownsRow (w.heap.size+1) 26 5 (.slice (some ⟨g',0,none⟩) (p+1) cap') (p+1) (rcells (passR W H x2 x3 N f) A C p ++ [.int .i64 (PW:Int),.int .i64 (j:Int),.int .i64 x2,.int .i64 x3,vr])→(wr.alloc (.cells #[.int .i64 (PW:Int),.int .i64 (j:Int),.int .i64 x2,.int .i64 x3,vr] 26)).grownBy w6 (some gl)→(some gl=some g'∨g'=(wr.alloc (.cells #[.int .i64 (PW:Int),.int .i64 (j:Int),.int .i64 x2,.int .i64 x3,vr] 26)).heap.size)→PassI w w6 W H N x2 x3 f (.slice (some ⟨g,off,none⟩) T cap) g' cap' (p+1)):=fun w6 g' cap' q1 q2 q3=>HX.out w6 wr vr g' cap' _ hO hBw q1 q2 q3
     have HLW:Hid ((wr.alloc (.cells #[.int .i64 (PW:Int),.int .i64 (j:Int),.int .i64 x2,.int .i64 x3,vr] 26)).ownsRow (w.heap.size+1) 26 5 (.slice (some ⟨gl,0,none⟩) p cl) p (rcells (passR W H x2 x3 N f) A C p)):=by
      obtain⟨r1,r2⟩:=HL.out
      refine⟨r1,?_⟩
      rcases r2 with ⟨e,_⟩ | ⟨g9,c9,cur,e,s1,s2,s3⟩
      ·cases e
      ·cases e
       refine .inr ⟨_,_,cur,rfl,s1,?_,s3⟩
       rw[Below.heap_alloc wr _ _ (Nat.lt_of_lt_of_le hglt hBw.size)]
       exact (hBw.block _ hglt).trans s2
     have hb1:=HB1.out.size
     clear hb hO hBw HX
     obtain⟨i0,hi0,hz0,hz1,hz2⟩:=info_parts info_ras14
     go_wp2_with (at_builtin; refine wpList_append_lies _ rfl (.tmp 84) (.tmp 86) 28 rfl (w.heap.size+1) 26 i0 _ 5 56 Tryd.underlying28 hi0 hz0 hz1 hz2 rfl (by omega) (.slice (some ⟨gl,0,none⟩) p cl) p (rcells (passR W H x2 x3 N f) A C p) (by rfl) (by exact HLW.out) ⟨wr.heap.size,0,none⟩ 1 1 [.int .i64 (PW:Int),.int .i64 (j:Int),.int .i64 x2,.int .i64 x3,vr] (by rfl) rfl (by exact World.news_of_block (heap_alloc_new wr _)) (by intro u hu; simp only [List.mem_cons,List.not_mem_nil,or_false] at hu; rcases hu with rfl | rfl | rfl | rfl | rfl <;> first | rfl | exact hone) (by omega) (by unfold maxLen; omega) (by omega) (by simp; omega) _ rfl ?_)
     intro g' cap' w3 y1 y2 y3 y4
     have HS6:=hid_of (HY.out w3 g' cap' y1 y2 (by rcases y3 with e | e; exact .inl e; exact .inr (by simpa using e)))
     clear y1 y2 y3 y4 HY HLW
     go_wp2_with fail
     go_roundg (7 - (p+1))
     case measure=>omega
     case rel=>exact⟨p+1,g',cap',by omega,Nat.le_refl _,by go_num,rfl,HS6⟩
  ·obtain rfl:p=7:=by omega
   have HZ:Hid (RCame wr (some ⟨gl,0,none⟩) 7 (passR W H x2 x3 N f)∧Below w.heap.size w wr):=⟨hS.out.out,hS.out.2.2⟩
   clear hS
   go_wp2_with fail
   go_ret
   exact⟨_,_,rfl,HZ.out⟩
end Go.Proofs.YtcbbcadfolgioaaDoor
