/-
  Texts of the proof, put together.
-/
import Derived.Test.YtcbbcadfolgioaaDoorPe08
import Derived.Test.YtcbbcadfolgioaaDoorPe06
import Derived.Deep.RegionHeld3
namespace Go.Proofs.YtcbbcadfolgioaaDoor
open Go.RowKit Go.Joins OutMath PutMath BitsMath RastMath
set_option maxRecDepth 100000 in
set_option maxHeartbeats 6400000 in
theorem specPack_in (a:Option Addr) (n cap d:Nat) (f:Nat→Int) (w:World) (hC:Came w a n f) (hd:Five (d:Int)) (hn:n≤96):
  Calls Tryd.prog 92 #[.slice a n cap,.int .i64 (d:Int)] w (PackPost f n d w):=by
 have h5:=five_range hd
 have hk:=specDepth5 (d:Int)
 rw[decide_eq_true hd] at hk
 have hnd:n * d≤96 * 16:=Nat.mul_le_mul hn (by omega)
 obtain⟨q,hq⟩:∃ q,q=n * d:=⟨_,rfl⟩
 rw[← hq] at hnd
 have hpd:=fun W=>pow_any d W (by omega)
 have hpp:=p2_pos d
 have hp16:p2 d≤65536:=by
  have:=p2_le (show d≤16 by omega)
  rw[show p2 16=65536 by decide +kernel] at this
  exact this
 obtain⟨P,hP⟩:∃ P,P=p2 d:=⟨_,rfl⟩
 rw[← hP] at hpd hpp hp16
 have HC:=hid_of hC
 have HP:=hid_of hP
 have HQ:=hid_of hq
 have dn:decide ((96:Int) < (n:Int))=false:=decide_eq_false (by omega)
 have H0:Hid (Fit12 f 0 d∧NumRow (w.alloc (.cells #[] 3)) w.heap.size (.slice (some ⟨w.heap.size,0,none⟩) 0 0) (bitsL f n d (0 * d))∧Below w.heap.size w (w.alloc (.cells #[] 3))):=⟨fun i hi=>absurd hi (Nat.not_lt_zero i),by rw [Nat.zero_mul]; exact NumRow.empty w w.heap.size (Nat.le_refl _),bstart _ _⟩
 clear hC hP hq hd
 go_enter Tryd.func92,Tryd.ntmps92
 go_wp2_with fail
 refine (hk _).mono ?_
 rintro e w1 ⟨rfl,rfl⟩
 go_wp2_with fail
 go_loopg [6,7] (n+1) (fun gk v i w'=>∃ j:Nat,j≤n∧n - j≤gk∧i=.int .i64 (j:Int)∧Hid (Fit12 f j d∧NumRow w' w1.heap.size v (bitsL f n d (j * d))∧Below w1.heap.size w1 w'))
 case atStart=>exact⟨0,Nat.zero_le _,by omega,rfl,H0⟩
 case round=>
  clear H0
  obtain⟨j,hj,hgk,rfl,hS⟩:=hrel
  by_cases hlt:j < n
  ·have dl:decide ((j:Int) < (n:Int))=true:=decide_eq_true (by omega)
   rcases HC.out with h0 | ⟨g,off,rfl,hg,hc⟩
   ·omega
   have c0:wr.cell? ⟨g,off+j,none⟩=some (.int .i64 (f j)):=(hS.out.2.2.cell (p:=⟨g,off+j,none⟩) hg).trans (hc j hlt)
   have l0:g < wr.heap.size:=Nat.lt_of_lt_of_le hg hS.out.2.2.size
   have HCC:=hid_of hc
   clear hc
   obtain⟨x,hx⟩:∃ x,x=f j:=⟨_,rfl⟩
   rw[← hx] at c0
   have HX:=hid_of hx
   clear hx
   have wp:IntKind.i64.wrap (P - 1)=P - 1:=by rw [IntKind.wrap_i64]; omega
   by_cases hin:0≤x∧x≤P - 1
   ·have hiy:=fun W=>in_yes x 0 (P - 1) W hin.1 hin.2
    have hjd:j * d+d≤q:=by
     have:=Nat.mul_le_mul_right d (show j+1≤n by omega)
     rw[Nat.add_mul,Nat.one_mul] at this
     rw[HQ.out]
     exact this
    go_wp2_with fail
    go_quiet ((first | (go_at_call 75; exact Calls.quiet_of_same (hpd _)) | (go_at_call 62; exact Calls.quiet_of_same (hiy _))))
    go_wp2_with fail
    go_loopg [6,8] (d+1) (fun gj v i w'=>∃ k:Nat,k≤d∧d - k≤gj∧i=.int .i64 ((d:Int) - 1 - (k:Int))∧Hid (NumRow w' w1.heap.size v (bitsL f n d (j * d+k))∧Below w1.heap.size w1 w'))
    case atStart=>exact⟨0,Nat.zero_le _,by omega,by go_num,hS.out.2.1.called (bdraws (Below.refl _ _) _),bdraws hS.out.2.2 _⟩
    case round=>
     obtain⟨k,hk0,hgj,rfl,hS2⟩:=hrel
     by_cases hkd:k < d
     ·have dk:decide ((0:Int)≤(d:Int) - 1 - (k:Int))=true:=decide_eq_true (by omega)
      obtain⟨m,hm⟩:∃ m,m=d - 1 - k:=⟨_,rfl⟩
      have hmi:(d:Int) - 1 - (k:Int)=(m:Int):=by omega
      rw[hmi] at dk ⊢
      have hm15:m≤15:=by omega
      have c1:wr.cell? ⟨g,off+j,none⟩=some (.int .i64 x):=by
       rw[HX.out]
       exact (hS2.out.2.cell (p:=⟨g,off+j,none⟩) hg).trans (HCC.out j hlt)
      have l1:g < wr.heap.size:=Nat.lt_of_lt_of_le hg hS2.out.2.size
      have hp:=fun W=>pow_any m W (by omega)
      have hpm:=p2_pos m
      have hp15:p2 m≤32768:=by
       have:=p2_le hm15
       rw[show p2 15=32768 by decide +kernel] at this
       exact this
      obtain⟨M,hM⟩:∃ M,M=p2 m:=⟨_,rfl⟩
      rw[← hM] at hp hpm hp15
      have p0:(M == 0)=false:=by simp; omega
      have p1:¬ M=0:=by omega
      obtain⟨C,hC⟩:∃ C,C=x / M:=⟨_,rfl⟩
      have hC0:0≤C∧C < 65536:=by
       rw[hC]
       exact⟨Int.ediv_nonneg hin.1 (by omega),Int.lt_of_le_of_lt (Int.ediv_le_self _ hin.1) (by omega)⟩
      have t5:x.tdiv M=C:=by rw [Int.tdiv_eq_ediv_of_nonneg hin.1,hC]
      have w5:IntKind.i64.wrap (C)=C:=by rw [IntKind.wrap_i64]; omega
      obtain⟨D,hD⟩:∃ D,D=C % 2:=⟨_,rfl⟩
      have hD0:0≤D∧D≤1:=by omega
      have t6:C.tmod 2=D:=by rw [Int.tmod_eq_emod_of_nonneg hC0.1,hD]
      have w6:IntKind.i64.wrap (D)=D:=by rw [IntKind.wrap_i64]; omega
      have HV:Hid (rowBit f n d (j * d+k)=D):=by
       show _=_
       rw[rowBit_in hlt hkd,hD,hC,hM,hm,HX.out]
       rfl
      have hle:j * d+k≤2000:=by omega
      have x0:(0:Int)≤(j:Int):=by omega
      have x1:(j:Int) < (n:Int):=by omega
      have xs0:-9223372036854775808≤x∧x≤9223372036854775807:=by omega
      have HM:=hid_of hm
      have HNR:=hid_of hS2.out.1
      have HBL:=hid_of hS2.out.2
      have HOW:Hid (wr.ownsRow w1.heap.size 3 1 u6 (j * d+k) (ivals (bitsL f n d (j * d+k)))):=by
       have:=hS2.out.1
       unfold NumRow at this
       rw[bitsL_length] at this
       exact this
      clear hD hC hM hm hS2
      go_wp2_with fail
      refine wp_region_held (S:=fun u=>u.cell? ⟨g,off+j,none⟩=some (.int .i64 x)) (by kernel_rfl) ?_
      show wpAnyH _ _ _ _ _ _ _ _ wr.drew
      have HS:wr.drew.cell? ⟨g,off+j,none⟩=some (.int .i64 x):=c1
      refine wpAnyH_take (i:=0) (v:=u6) rfl (by kernel_rfl) (by kernel_rfl) (by kernel_rfl) (fun _ _ _ h=>h) (Or.inl ⟨by rfl,?_⟩) HS ?_
      ·intro w' hS
       go_simp
      simp only [Act.put,List.getElem_toArray,List.getElem_cons_zero,List.setIfInBounds_toArray,List.set_cons_zero,List.set_cons_succ]
      refine wpAnyH_take (i:=1) (v:=.slice (some ⟨g,off,none⟩) n cap) rfl (by kernel_rfl) (by kernel_rfl) (by kernel_rfl) (fun _ _ _ h=>h) (Or.inl ⟨by rfl,?_⟩) HS ?_
      ·intro w' hS
       go_simp
      simp only [Act.put,List.getElem_toArray,List.getElem_cons_zero,List.getElem_cons_succ,List.setIfInBounds_toArray,List.set_cons_zero,List.set_cons_succ]
      refine wpAnyH_take (i:=2) (v:=.int .i64 (j:Int)) rfl (by kernel_rfl) (by kernel_rfl) (by kernel_rfl) (fun _ _ _ h=>h) (Or.inl ⟨by rfl,?_⟩) HS ?_
      ·intro w' hS
       go_simp
      simp only [Act.put,List.getElem_toArray,List.getElem_cons_zero,List.getElem_cons_succ,List.setIfInBounds_toArray,List.set_cons_zero,List.set_cons_succ]
      refine wpAnyH_take (i:=3) (v:=.pointer (some ⟨g,off+j,none⟩)) rfl (by kernel_rfl) (by kernel_rfl) (by kernel_rfl) (fun _ _ _ h=>h) (Or.inl ⟨by rfl,?_⟩) HS ?_
      ·intro w' hS
       go_simp
      simp only [Act.put,List.getElem_toArray,List.getElem_cons_zero,List.getElem_cons_succ,List.setIfInBounds_toArray,List.set_cons_zero,List.set_cons_succ]
      refine wpAnyH_take (i:=4) (v:=.int .i64 x) rfl (by kernel_rfl) (by kernel_rfl) (by kernel_rfl) (fun _ _ _ h=>h) (Or.inl ⟨by rfl,?_⟩) HS ?_
      ·intro w' hS
       go_simp
      simp only [Act.put,List.getElem_toArray,List.getElem_cons_zero,List.getElem_cons_succ,List.setIfInBounds_toArray,List.set_cons_zero,List.set_cons_succ]
      refine wpAnyH_take (i:=5) (v:=.int .i64 (m:Int)) rfl (by kernel_rfl) (by kernel_rfl) (by kernel_rfl) (fun _ _ _ h=>h) (Or.inl ⟨by rfl,?_⟩) HS ?_
      ·intro w' hS
       go_simp
      simp only [Act.put,List.getElem_toArray,List.getElem_cons_zero,List.getElem_cons_succ,List.setIfInBounds_toArray,List.set_cons_zero,List.set_cons_succ]
      refine wpAnyH_ready (rs:=[6]) (by kernel_rfl) (by simp) ?_
      refine AllReadyH.cons rfl (fun K hK=>?_) AllReadyH.nil
      refine if_wanted (wanted_none rfl) ?_
      simp only [List.getElem_toArray,List.getElem_cons_zero,List.getElem_cons_succ]
      go_simp
      refine (hp _).mono ?_
      rintro e w4 ⟨rfl,rfl⟩
      refine hK.out _ _ HS (fun HS2=>?_)
      clear hK K
      refine wpAnyH_take (i:=7) (v:=.int .i64 C) rfl (by kernel_rfl) (by kernel_rfl) (by kernel_rfl) (fun _ _ _ h=>h) (Or.inl ⟨by rfl,?_⟩) HS2 ?_
      ·intro w' hS
       go_simp
      simp only [Act.put,List.getElem_toArray,List.getElem_cons_zero,List.getElem_cons_succ,List.setIfInBounds_toArray,List.set_cons_zero,List.set_cons_succ]
      refine wpAnyH_take (i:=8) (v:=.int .i64 D) rfl (by kernel_rfl) (by kernel_rfl) (by kernel_rfl) (fun _ _ _ h=>h) (Or.inl ⟨by rfl,?_⟩) HS2 ?_
      ·intro w' hS
       go_simp
      simp only [Act.put,List.getElem_toArray,List.getElem_cons_zero,List.getElem_cons_succ,List.setIfInBounds_toArray,List.set_cons_zero,List.set_cons_succ]
      refine wpAnyH_ready (rs:=[9]) (by kernel_rfl) (by simp) ?_
      refine AllReadyH.cons rfl (fun K hK=>?_) AllReadyH.nil
      refine if_wanted (wanted_none rfl) ?_
      simp only [List.getElem_toArray,List.getElem_cons_zero,List.getElem_cons_succ]
      go_simp
      refine hK.out _ _ ((grow_cell _ l1 _).trans c1) (fun HS3=>?_)
      clear hK K
      refine wpAnyH_ready (rs:=[10]) (by kernel_rfl) (by simp) ?_
      refine AllReadyH.cons rfl (fun K hK=>?_) AllReadyH.nil
      refine if_wanted (wanted_none rfl) ?_
      simp only [List.getElem_toArray,List.getElem_cons_zero,List.getElem_cons_succ]
      obtain⟨i0,hi0,hz0,hz1,hz2⟩:=info_parts info_int
      refine wp_append_lies _ (.tmp 43) (.tmp 52) 24 rfl w1.heap.size 3 i0 _ 1 8 Tryd.underlying24 hi0 hz0 hz1 hz2 rfl (by omega) u6 (j * d+k) (ivals (bitsL f n d (j * d+k))) (by rfl) (by exact World.ownsRow.alloc HOW.out _) ⟨wr.heap.size,0,none⟩ 1 1 [.int .i64 D] (by rfl) rfl (by exact World.news_of_block (heap_alloc_new wr _)) (by simp [Value.oneCell']) (by omega) (by unfold maxLen; omega) (by omega) (by have:=HBL.out.size; show w1.heap.size≤(wr.alloc _).heap.size; simp; omega) _ rfl ?_
      intro g' cap' w3 y1 y2 y3 y4
      have HN:Hid (NumRow w3 w1.heap.size (.slice (some ⟨g',0,none⟩) (j * d+k+1) cap') (bitsL f n d (j * d+(k+1)))∧Below w1.heap.size w1 w3):=by
       refine⟨?_,(bal HBL.out (.cells #[.int .i64 D] 3)).grown ⟨y2.1,y2.2,y2.3,y2.4,y2.5⟩ (by have:=HBL.out.size; simp; omega) (fun q hq=>(HNR.out.lt q hq).1)⟩
       unfold NumRow
       rw[bitsL_length,← Nat.add_assoc,bitsL_next,ivals_app,HV.out]
       exact y1
      have z1:w3.cell? ⟨g,off+j,none⟩=some (.int .i64 x):=(y2.cell_far ⟨g,off+j,none⟩ (by exact grow_lt _ l1) (fun e=>by have:=(HNR.out.lt g e.symm).1; omega)).trans ((grow_cell _ l1 _).trans c1)
      clear y1 y2 y3 y4
      refine hK.out _ _ z1 (fun HS4=>?_)
      clear hK K
      refine wpAnyH_take (i:=11) (v:=.slice (some ⟨g',0,none⟩) (j * d+k+1) cap') rfl (by kernel_rfl) (by kernel_rfl) (by kernel_rfl) (fun _ _ _ h=>h) (Or.inl ⟨by rfl,?_⟩) HS4 ?_
      ·intro w' hS
       go_simp
      simp only [Act.put,List.getElem_toArray,List.getElem_cons_zero,List.getElem_cons_succ,List.setIfInBounds_toArray,List.set_cons_zero,List.set_cons_succ]
      refine wpAnyH_done (by kernel_rfl) ?_ _
      go_wp2_with fail
      go_roundg (d - (k+1))
      case measure=>omega
      case rel=>exact⟨k+1,by omega,Nat.le_refl _,by congr 1; omega,HN⟩
     ·obtain rfl:k=d:=by omega
      have dk:decide ((0:Int)≤(k:Int) - 1 - (k:Int))=false:=decide_eq_false (by omega)
      have HN:Hid (Fit12 f (j+1) k∧NumRow wr w1.heap.size u6 (bitsL f n k ((j+1) * k))∧Below w1.heap.size w1 wr):=by
       refine⟨hS.out.1.next ?_ ?_,?_,hS2.out.2⟩
       ·rw[← HX.out]; exact hin.1
       ·rw[← HX.out,← HP.out]; omega
       ·rw[Nat.add_mul,Nat.one_mul]; exact hS2.out.1
      clear hS2
      go_wp2_with fail
      go_roundg (n - (j+1))
      case measure=>omega
      case rel=>exact⟨j+1,by omega,Nat.le_refl _,by go_num,HN⟩
   ·have hiy:=fun W=>in_no x 0 (P - 1) W hin
    have HN:Hid (¬ Fit12 f n d):=fun h=>hin (by have:=h j hlt; rw [← HX.out,← HP.out] at this; omega)
    clear hin
    go_wp2_with fail
    go_quiet ((first | (go_at_call 75; exact Calls.quiet_of_same (hpd _)) | (go_at_call 62; exact Calls.quiet_of_same (hiy _))))
    go_wp2_with fail
    refine bodyPost_ret (v:=.tuple #[.string ⟨#[]⟩,.bool false]) ?_ rfl ⟨fun h=>absurd h HN.out,fun _=>rfl,bdraws hS.out.2.2 _⟩
    simp[results,Tryd.results92,go_sem]
  ·obtain rfl:j=n:=by omega
   have dl:decide ((j:Int) < (j:Int))=false:=decide_eq_false (by omega)
   have HF:=hid_of hS.out.1
   have H3:Hid (NumRow wr w1.heap.size u6 (bitsL f j d q)∧Below w1.heap.size w1 wr):=by
    rw[HQ.out]
    exact hS.out.2
   clear hS
   obtain⟨NB,hNB⟩:∃ NB,NB=(q+7) / 8:=⟨_,rfl⟩
   have HNB:=hid_of hNB
   have hq1:q≤8 * NB∧8 * NB≤q+7:=by omega
   clear hNB
   go_wp2_with fail
   go_loopg [6] 9 (fun gp v w'=>∃ m:Nat,q≤m∧m≤8 * NB∧8 * NB - m≤gp∧Hid (NumRow w' w1.heap.size v (bitsL f j d m)∧Below w1.heap.size w1 w'))
   case atStart=>exact⟨q,Nat.le_refl _,by omega,by omega,H3⟩
   case round=>
    clear H3
    obtain⟨m,hm0,hm1,hgp,hS3⟩:=hrel
    obtain⟨av,cv,hv,_,_,hCa,_⟩:=hS3.out.1.form
    rw[bitsL_length] at hv hCa
    subst hv
    have t1:(m:Int).tmod 8=(m:Int) % 8:=Int.tmod_eq_emod_of_nonneg (by omega)
    by_cases h8:m % 8=0
    ·have e1:((m:Int) % 8 == 0)=true:=by simp; omega
     have e2:((m:Int) % 8 != 0)=false:=by simp; omega
     have e3:(m:Int) % 8=0:=by omega
     obtain rfl:m=8 * NB:=by omega
     have HCa:Hid (Came wr av (8 * NB) (fun i=>(bitsL f j d (8 * NB)).getD i 0)):=hCa
     have HB3:=hid_of hS3.out.2
     clear hCa hS3
     generalize wr=w5 at *
     have H4:Hid (BR (w5.alloc (.cells #[] 5)) w5.heap.size w5.heap.size 0 0 (packN f j d 0)∧Below w5.heap.size w5 (w5.alloc (.cells #[] 5))):=⟨BR.empty w5 w5.heap.size (Nat.le_refl _),bstart _ _⟩
     have hNBb:NB≤200:=by omega
     clear hm0 hm1 hgp h8 t1
     go_wp2_with fail
     go_loopg [9,10] (NB+1) (fun gb v i w'=>∃ (b g9 c9:Nat),b≤NB∧NB - b≤gb∧i=.int .i64 (8 * (b:Int))∧v=.slice (some ⟨g9,0,none⟩) b c9∧Hid (BR w' w5.heap.size g9 b c9 (packN f j d b)∧Below w5.heap.size w5 w'))
     case atStart=>exact⟨0,_,_,Nat.zero_le _,by omega,rfl,rfl,H4⟩
     case round=>
      clear H4
      obtain⟨b,g9,c9,hb0,hgb,rfl,rfl,hS4⟩:=hrel
      by_cases hbl:b < NB
      ·have db:decide ((8:Int) * (b:Int) < 8 * (NB:Int))=true:=decide_eq_true (by omega)
       go_wp2_with fail
       go_loopg [11,12] 9 (fun gk x i w'=>∃ (k:Nat) (z:Int),k≤8∧8 - k≤gk∧i=.int .i64 (k:Int)∧x=.int .i64 z∧(0≤z∧z < 256)∧Hid (z=hb (fun k=>rowBit f j d (8 * b+k)) k∧BR w' w5.heap.size g9 b c9 (packN f j d b)∧Below w5.heap.size w5 w'))
       case atStart=>exact⟨0,0,Nat.zero_le _,by omega,rfl,rfl,by omega,rfl,hS4.out⟩
       case round=>
        obtain⟨k,z,hk0,hgk,rfl,rfl,hz,hS5⟩:=hrel
        by_cases hk8:k < 8
        ·have dk:decide ((k:Int) < 8)=true:=decide_eq_true (by omega)
         obtain⟨p,hp⟩:∃ p,p=8 * b+k:=⟨_,rfl⟩
         have hpi:(8:Int) * (b:Int)+(k:Int)=(p:Int):=by omega
         have hpl:p < 8 * NB:=by omega
         have hpl2:(p:Int) < 8 * (NB:Int):=by omega
         rcases HCa.out with h0 | ⟨g6,off6,rfl,hg6,hc6⟩
         ·omega
         have c6:wr.cell? ⟨g6,off6+p,none⟩=some (.int .i64 (rowBit f j d p)):=by
          have:w5.cell? ⟨g6,off6+p,none⟩=some (.int .i64 ((bitsL f j d (8 * NB)).getD p 0)):=hc6 p hpl
          rw[bitsL_get _ _ _ _ _ hpl] at this
          exact (hS5.out.2.2.cell (p:=⟨g6,off6+p,none⟩) hg6).trans this
         have l6:g6 < wr.heap.size:=Nat.lt_of_lt_of_le hg6 hS5.out.2.2.size
         have hrb:=rowBit_range f j d p
         have HNX:Hid (2 * z+rowBit f j d p=hb (fun k=>rowBit f j d (8 * b+k)) (k+1)):=by
          show _=2 * hb _ k+_
          rw[← hS5.out.1,hp]
         have HBI:Hid (0≤2 * z+rowBit f j d p∧2 * z+rowBit f j d p < 256):=by
          have h1:=hb_range (g:=fun k=>rowBit f j d (8 * b+k)) (fun _=>rowBit_range _ _ _ _) (k+1)
          have h2:=p2_le (show k+1≤8 by omega)
          rw[show p2 8=256 by decide +kernel] at h2
          rw[← HNX.out] at h1
          exact⟨h1.1,by omega⟩
         have HR:=hid_of hS5.out.2
         generalize rowBit f j d p=D at *
         clear hc6 hS5 hp
         go_wp2_with fail
         go_roundg (8 - (k+1))
         case measure=>omega
         case rel=>exact⟨k+1,2 * z+D,by omega,Nat.le_refl _,by go_num,rfl,HBI.out,HNX.out,HR.out⟩
        ·obtain rfl:k=8:=by omega
         have dk:decide (((8:Nat):Int) < 8)=false:=decide_eq_false (by omega)
         have HZ:Hid (packB f j d b=z):=hS5.out.1.symm
         have HR:=hid_of hS5.out.2
         have u1:z % 256=z:=by omega
         have u2:IntKind.u8.wrap z=z:=by show z % 256=z; omega
         clear hS5
         go_wp2_with (at_builtin; refine bytes_app1 (S:=w5.heap.size) (xs:=packN f j d b) rfl _ _ rfl rfl (HR.out.1.keep (bstart _ _)) wr.heap.size 1 z rfl ((cell_of_block (heap_alloc_new wr (.cells #[.int .u8 z] 5)) 0).trans rfl) (by omega) (by have:=HR.out.2.size; simp; omega) ?_)
         intro g' cap' w6 y1 y2
         have HS6:Hid (BR w6 w5.heap.size g' (b+1) cap' (packN f j d (b+1))∧Below w5.heap.size w5 w6):=by
          refine⟨?_,(bal HR.out.2 _).grown y2 (by have:=HR.out.2.size; simp; omega) (fun q hq=>?_)⟩
          ·rw[packN_next,HZ.out]
           exact y1
          ·cases hq
           rcases HR.out.1.1.2 with ⟨q1,_⟩ | ⟨_,_,_,q1,q2,_⟩
           ·cases q1
           ·cases q1; exact q2
         clear y1 y2
         go_wp2_with fail
         go_roundg (NB - (b+1))
         case measure=>omega
         case rel=>exact⟨b+1,g',cap',by omega,Nat.le_refl _,by go_num,rfl,HS6⟩
      ·obtain rfl:b=NB:=by omega
       have db:decide ((8:Int) * (b:Int) < 8 * (b:Int))=false:=decide_eq_false (by omega)
       have hcv:=hS4.out.1.text
       have HE:Hid (strOfNums (packN f j d b)=packT f j d):=by
        show _=strOfNums (packN f j d ((j * d+7) / 8))
        rw[HNB.out,HQ.out]
       have HBE:=hid_of (bnext HB3.out hS4.out.2)
       clear hS4
       go_wp2_with fail
       refine bodyPost_ret (v:=.tuple #[.string (strOfNums (packN f j d b)),.bool true]) ?_ rfl ⟨fun _=>by rw [HE.out],fun h=>absurd HF.out h,HBE.out⟩
       simp[results,Tryd.results92,go_sem]
    ·have e1:((m:Int) % 8 == 0)=false:=by simp; omega
     have e2:((m:Int) % 8 != 0)=true:=by simp; omega
     have e3:¬ (m:Int) % 8=0:=by omega
     have HNR:=hid_of hS3.out.1
     have HBL:=hid_of hS3.out.2
     have HV:Hid (rowBit f j d m=0):=rowBit_out (by rw [← HQ.out]; exact hm0)
     have hsz:=HBL.out.size
     clear hCa hS3
     go_wp2_with (at_builtin; refine nums_append1 (S:=w1.heap.size) (xs:=bitsL f j d m) rfl _ _ rfl rfl (HNR.out.called (bstart _ _)) wr.heap.size 1 0 rfl ((cell_of_block (heap_alloc_new wr (.cells #[.int .i64 0] 3)) 0).trans rfl) (by rw [bitsL_length]; omega) (by simp; omega) ?_)
     intro v1 w3 y1 y2 _
     have HS3:Hid (NumRow w3 w1.heap.size v1 (bitsL f j d (m+1))∧Below w1.heap.size w1 w3):=by
      refine⟨?_,(bal HBL.out _).grown y2 (by simp; omega) (fun q hq=>(HNR.out.lt q hq).1)⟩
      rw[bitsL_next,HV.out]
      exact y1
     clear y1 y2
     go_wp2_with fail
     go_roundg (8 * NB - (m+1))
     case measure=>omega
     case rel=>exact⟨m+1,by omega,by omega,Nat.le_refl _,HS3⟩
end Go.Proofs.YtcbbcadfolgioaaDoor
