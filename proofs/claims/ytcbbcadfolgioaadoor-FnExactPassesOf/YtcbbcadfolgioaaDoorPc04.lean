/-
  Texts of the proof, put together.
-/
import Derived.Test.YtcbbcadfolgioaaDoorPc03
import Derived.Deep.RegionHeld3
namespace Go.Proofs.YtcbbcadfolgioaaDoor
section
open Go.RowKit Go.Joins
set_option maxRecDepth 100000 in
set_option maxHeartbeats 3200000 in
theorem eqRasterS_same (a b:Option Addr) (m c1 c2:Nat) (R:Nat→Ras) (w:World) (ha:RCame w a m R) (hb:RCame w b m R) (hm:m≤1048576) (hn:∀ j,j < m→(R j).n≤1048576):
  Calls Tryd.prog 21 #[.slice a m c1,.slice b m c2] w fun e w'=>e=.returned (.bool true)∧Below w.heap.size w w':=by
 have HA:=hid_of ha
 have HB:=hid_of hb
 have HN:=hid_of hn
 clear ha hb hn
 have nn:((m:Int) != (m:Int))=false:=by simp
 go_enter Tryd.func21,Tryd.ntmps21
 go_wp2_with fail
 go_loopw [5] (fun i w'=>∃ j:Nat,j≤m∧i=.int .i64 (j:Int)∧Hid (Below w.heap.size w w')) (fun i _=>m - (intOf i).toNat)
 case atStart=>exact⟨0,Nat.zero_le _,rfl,Below.refl _ _⟩
 case round=>
  obtain⟨j,hj,rfl,hS⟩:=hrel
  by_cases hlt:j < m
  ·have dl:decide ((j:Int) < (m:Int))=true:=decide_eq_true (by omega)
   rcases HA.out.called hS.out with q | ⟨g1,o1,A1,C1,rfl,hg1,hc1⟩
   ·omega
   rcases HB.out.called hS.out with q | ⟨g2,o2,A2,C2,rfl,hg2,hc2⟩
   ·omega
   obtain⟨ka,ca,_⟩:=hc1 j hlt
   obtain⟨kb,cb,_⟩:=hc2 j hlt
   have heq:=fun (W:World) (h1:Came W (A1 j) (R j).n (R j).f) (h2:Came W (A2 j) (R j).n (R j).f)=>eqRaster_same (R j).x0 (R j).x1 (R j).x2 (R j).x3 (A1 j) (A2 j) (R j).n (C1 j) (C2 j) (R j).f W h1 h2 (HN.out j hlt)
   have HCa:=hid_of ca
   have HCb:=hid_of cb
   clear hc1 hc2 ca cb
   generalize R j=r at *
   generalize A1 j=x1 at *
   generalize A2 j=x2 at *
   generalize C1 j=y1 at *
   generalize C2 j=y2 at *
   go_wp2_with fail
   refine wp_region_held (S:=fun u=>RasAt u g1 (o1+j * 5) r x1 y1∧RasAt u g2 (o2+j * 5) r x2 y2∧g1 < u.heap.size∧g2 < u.heap.size) (by kernel_rfl) ?_
   show wpAnyH _ _ _ _ _ _ _ _ wr.drew
   have HS:RasAt wr.drew g1 (o1+j * 5) r x1 y1∧RasAt wr.drew g2 (o2+j * 5) r x2 y2∧g1 < wr.drew.heap.size∧g2 < wr.drew.heap.size:=⟨ka,kb,hg1,hg2⟩
   refine wpAnyH_take (i:=0) (v:=.slice (some ⟨g1,o1,none⟩) m c1) rfl (by kernel_rfl) (by kernel_rfl) (by kernel_rfl) (fun _ _ _ h=>h) (Or.inl ⟨by rfl,?_⟩) HS ?_
   ·intro w' hS
    obtain⟨⟨s0,s1,s2,s3,s4⟩,⟨t0,t1,t2,t3,t4⟩,s5,t5⟩:=hS
    go_simp
   simp only [Act.put,List.getElem_toArray,List.getElem_cons_zero,List.setIfInBounds_toArray,List.set_cons_zero,List.set_cons_succ]
   refine wpAnyH_take (i:=1) (v:=.int .i64 (j:Int)) rfl (by kernel_rfl) (by kernel_rfl) (by kernel_rfl) (fun _ _ _ h=>h) (Or.inl ⟨by rfl,?_⟩) HS ?_
   ·intro w' hS
    obtain⟨⟨s0,s1,s2,s3,s4⟩,⟨t0,t1,t2,t3,t4⟩,s5,t5⟩:=hS
    go_simp
   simp only [Act.put,List.getElem_toArray,List.getElem_cons_zero,List.getElem_cons_succ,List.setIfInBounds_toArray,List.set_cons_zero,List.set_cons_succ]
   refine wpAnyH_take (i:=2) (v:=.pointer (some ⟨g1,o1+j * 5,none⟩)) rfl (by kernel_rfl) (by kernel_rfl) (by kernel_rfl) (fun _ _ _ h=>h) (Or.inl ⟨by rfl,?_⟩) HS ?_
   ·intro w' hS
    obtain⟨⟨s0,s1,s2,s3,s4⟩,⟨t0,t1,t2,t3,t4⟩,s5,t5⟩:=hS
    go_simp
   simp only [Act.put,List.getElem_toArray,List.getElem_cons_zero,List.getElem_cons_succ,List.setIfInBounds_toArray,List.set_cons_zero,List.set_cons_succ]
   refine wpAnyH_take (i:=3) (v:=rasA r x1 y1) rfl (by kernel_rfl) (by kernel_rfl) (by kernel_rfl) (fun _ _ _ h=>h) (Or.inl ⟨by rfl,?_⟩) HS ?_
   ·intro w' hS
    obtain⟨⟨s0,s1,s2,s3,s4⟩,⟨t0,t1,t2,t3,t4⟩,s5,t5⟩:=hS
    go_simp
   simp only [Act.put,List.getElem_toArray,List.getElem_cons_zero,List.getElem_cons_succ,List.setIfInBounds_toArray,List.set_cons_zero,List.set_cons_succ]
   refine wpAnyH_take (i:=4) (v:=.slice (some ⟨g2,o2,none⟩) m c2) rfl (by kernel_rfl) (by kernel_rfl) (by kernel_rfl) (fun _ _ _ h=>h) (Or.inl ⟨by rfl,?_⟩) HS ?_
   ·intro w' hS
    obtain⟨⟨s0,s1,s2,s3,s4⟩,⟨t0,t1,t2,t3,t4⟩,s5,t5⟩:=hS
    go_simp
   simp only [Act.put,List.getElem_toArray,List.getElem_cons_zero,List.getElem_cons_succ,List.setIfInBounds_toArray,List.set_cons_zero,List.set_cons_succ]
   refine wpAnyH_take (i:=5) (v:=.int .i64 (j:Int)) rfl (by kernel_rfl) (by kernel_rfl) (by kernel_rfl) (fun _ _ _ h=>h) (Or.inl ⟨by rfl,?_⟩) HS ?_
   ·intro w' hS
    obtain⟨⟨s0,s1,s2,s3,s4⟩,⟨t0,t1,t2,t3,t4⟩,s5,t5⟩:=hS
    go_simp
   simp only [Act.put,List.getElem_toArray,List.getElem_cons_zero,List.getElem_cons_succ,List.setIfInBounds_toArray,List.set_cons_zero,List.set_cons_succ]
   refine wpAnyH_take (i:=6) (v:=.pointer (some ⟨g2,o2+j * 5,none⟩)) rfl (by kernel_rfl) (by kernel_rfl) (by kernel_rfl) (fun _ _ _ h=>h) (Or.inl ⟨by rfl,?_⟩) HS ?_
   ·intro w' hS
    obtain⟨⟨s0,s1,s2,s3,s4⟩,⟨t0,t1,t2,t3,t4⟩,s5,t5⟩:=hS
    go_simp
   simp only [Act.put,List.getElem_toArray,List.getElem_cons_zero,List.getElem_cons_succ,List.setIfInBounds_toArray,List.set_cons_zero,List.set_cons_succ]
   refine wpAnyH_take (i:=7) (v:=rasA r x2 y2) rfl (by kernel_rfl) (by kernel_rfl) (by kernel_rfl) (fun _ _ _ h=>h) (Or.inl ⟨by rfl,?_⟩) HS ?_
   ·intro w' hS
    obtain⟨⟨s0,s1,s2,s3,s4⟩,⟨t0,t1,t2,t3,t4⟩,s5,t5⟩:=hS
    go_simp
   simp only [Act.put,List.getElem_toArray,List.getElem_cons_zero,List.getElem_cons_succ,List.setIfInBounds_toArray,List.set_cons_zero,List.set_cons_succ]
   refine wpAnyH_ready (rs:=[8]) (by kernel_rfl) (by simp) ?_
   refine AllReadyH.cons rfl (fun K hK=>?_) AllReadyH.nil
   refine if_wanted (wanted_none rfl) ?_
   simp only [List.getElem_toArray,List.getElem_cons_zero,List.getElem_cons_succ]
   go_simp
   refine (heq wr.drew HCa.out HCb.out).mono ?_
   rintro e w4 ⟨rfl,hB4⟩
   have HB4:Hid (Below wr.heap.size wr w4):=⟨hB4.1,hB4.2,hB4.3,hB4.4,hB4.5⟩
   clear hB4
   refine hK.out _ _ ⟨ka.keep (HB4.out.block _ hg1),kb.keep (HB4.out.block _ hg2),Nat.lt_of_lt_of_le hg1 HB4.out.size,Nat.lt_of_lt_of_le hg2 HB4.out.size⟩ (fun HS2=>?_)
   clear hK K HS
   refine wpAnyH_take (i:=9) (v:=.bool false) rfl (by kernel_rfl) (by kernel_rfl) (by kernel_rfl) (fun _ _ _ h=>h) (Or.inl ⟨by rfl,?_⟩) HS2 ?_
   ·intro w' hS
    obtain⟨⟨s0,s1,s2,s3,s4⟩,⟨t0,t1,t2,t3,t4⟩,s5,t5⟩:=hS
    go_simp
   simp only [Act.put,List.getElem_toArray,List.getElem_cons_zero,List.getElem_cons_succ,List.setIfInBounds_toArray,List.set_cons_zero,List.set_cons_succ]
   refine wpAnyH_done (by kernel_rfl) ?_ _
   go_wp2_with fail
   go_roundw
   case rel=>exact⟨j+1,by omega,by go_num,bnext hS.out HB4.out⟩
   case measure=>simp [intOf]; omega
  ·obtain rfl:j=m:=by omega
   have dl:decide ((j:Int) < (j:Int))=false:=decide_eq_false (by omega)
   go_wp2_with fail
   go_ret
   exact⟨rfl,hS.out⟩
set_option maxRecDepth 100000 in
set_option maxHeartbeats 3200000 in
theorem heldRasterS_same (a:Option Addr) (m c:Nat) (R:Nat→Ras) (k:Int) (w:World) (ha:RCame w a m (markR R k)) (hm:m≤1048576) (hn:∀ j,j < m→(R j).n≤1048576) (hK:∀ j,j≤m→0≤markK R k j∧markK R k j≤1000000000):
  Calls Tryd.prog 25 #[.slice a m c,.int .i64 k] w fun e w'=>e=.returned (.int .i64 (markK R k m))∧Below w.heap.size w w':=by
 have HA:=hid_of ha
 have HN:=hid_of hn
 have HK:=hid_of hK
 clear ha hn hK
 go_enter Tryd.func25,Tryd.ntmps25
 go_wp2_with fail
 go_loopw [1,5] (fun z i w'=>∃ j:Nat,j≤m∧i=.int .i64 (j:Int)∧z=.int .i64 (markK R k j)∧Hid (Below w.heap.size w w')) (fun _ i _=>m - (intOf i).toNat)
 case atStart=>exact⟨0,Nat.zero_le _,rfl,rfl,Below.refl _ _⟩
 case round=>
  obtain⟨j,hj,rfl,rfl,hS⟩:=hrel
  by_cases hlt:j < m
  ·have dl:decide ((j:Int) < (m:Int))=true:=decide_eq_true (by omega)
   rcases HA.out.called hS.out with q | ⟨g1,o1,A1,C1,rfl,hg1,hc1⟩
   ·omega
   obtain⟨⟨k0,k1,k2,k3,k4⟩,ca,_⟩:=hc1 j hlt
   have hk:=HK.out j hj
   have hk2:=HK.out (j+1) hlt
   have HE:Hid (markK R k (j+1)=markK R k j+1+1+1+1+((R j).n:Int)):=rfl
   have hnj:=HN.out j hlt
   have hheld:=fun (W:World) (hC:Came W (A1 j) (R j).n (fun i=>markK R k j+1+1+1+1+i))=>heldIntS_same (A1 j) (R j).n (C1 j) (markK R k j+1+1+1+1) W hC hnj (by omega) (by omega)
   have HCa:Hid (Came wr (A1 j) (R j).n (fun i=>markK R k j+1+1+1+1+i)):=ca
   clear hc1 ca
   rw[HE.out] at hk2
   have k0':wr.cell? ⟨g1,o1+j * 5,none⟩=some (.int .i64 (markK R k j)):=k0
   have k1':wr.cell? ⟨g1,o1+j * 5+1,none⟩=some (.int .i64 (markK R k j+1)):=k1
   have k2':wr.cell? ⟨g1,o1+j * 5+2,none⟩=some (.int .i64 (markK R k j+1+1)):=k2
   have k3':wr.cell? ⟨g1,o1+j * 5+3,none⟩=some (.int .i64 (markK R k j+1+1+1)):=k3
   have k4':wr.cell? ⟨g1,o1+j * 5+4,none⟩=some (.slice (A1 j) (R j).n (C1 j)):=k4
   clear k0 k1 k2 k3 k4
   generalize A1 j=x1 at *
   generalize C1 j=y1 at *
   generalize (R j).n=N at *
   generalize markK R k j=M at *
   have b0:(M != M)=false:=by simp
   have b1:(M+1 != M+1)=false:=by simp
   have b2:(M+1+1 != M+1+1)=false:=by simp
   have b3:(M+1+1+1 != M+1+1+1)=false:=by simp
   go_wp2_with fail
   refine (hheld _ HCa.out).mono ?_
   rintro e w4 ⟨rfl,hB4⟩
   have HB4:=hid_of (bnext hS.out hB4)
   have dn:decide (M+1+1+1+1+(N:Int) < 0)=false:=decide_eq_false (by omega)
   clear hB4
   go_wp2_with fail
   go_roundw
   case rel=>exact⟨j+1,by omega,by go_num,by rw [HE.out],HB4⟩
   case measure=>simp [intOf]; omega
  ·obtain rfl:j=m:=by omega
   have dl:decide ((j:Int) < (j:Int))=false:=decide_eq_false (by omega)
   go_wp2_with fail
   go_ret
   exact⟨rfl,hS.out⟩
def updR (R:Nat→Ras) (j:Nat) (r:Ras):Nat→Ras:=fun i=>if i=j then r else R i
theorem updR_same (R:Nat→Ras) (j:Nat) (r:Ras):updR R j r j=r:=by simp [updR]
theorem updR_other (R:Nat→Ras) {j i:Nat} (r:Ras) (h:i≠j):updR R j r i=R i:=by simp [updR,h]
section
variable {w w':World} {base g m:Nat} {R:Nat→Ras} {A:Nat→Option Addr} {G C:Nat→Nat}
theorem ROwnA.head (h:ROwnA w base g m R A G C) (j:Nat) (hj:j < m) (a b c d:Int):
  ROwnA ((((w.setCell ⟨g,j * 5,none⟩ (.int .i64 a)).setCell ⟨g,j * 5+1,none⟩ (.int .i64 b)).setCell ⟨g,j * 5+2,none⟩ (.int .i64 c)).setCell ⟨g,j * 5+3,none⟩ (.int .i64 d)) base g m (updR R j ⟨a,b,c,d,(R j).n,(R j).f⟩) A G C:=by
 obtain⟨h1,⟨cur,hc,h2,h3⟩,h4,h5,h6⟩:=h
 have en:∀ i,(updR R j ⟨a,b,c,d,(R j).n,(R j).f⟩ i).n=(R i).n:=fun i=>by
  unfold updR
  split
  ·rename_i e; rw [e]
  ·rfl
 have ef:∀ i,(updR R j ⟨a,b,c,d,(R j).n,(R j).f⟩ i).f=(R i).f:=fun i=>by
  unfold updR
  split
  ·rename_i e; rw [e]
  ·rfl
 refine⟨h1,⟨(((cur.setIfInBounds (j * 5) (.int .i64 a)).setIfInBounds (j * 5+1) (.int .i64 b)).setIfInBounds (j * 5+2) (.int .i64 c)).setIfInBounds (j * 5+3) (.int .i64 d),?_,by simpa using h2,fun i hi=>?_⟩,fun i hi=>?_,fun i hi hn=>h5 i hi (by rw [← en i]; exact hn),fun i k hi hk hne hn1 hn2=>h6 i k hi hk hne (by rw [← en i]; exact hn1) (by rw [← en k]; exact hn2)⟩
 ·simp[World.setCell,Array.getElem?_modify,hc]
 ·obtain⟨q0,q1,q2,q3,q4⟩:=h3 i hi
  unfold HeadAt updR
  by_cases e:i=j
  ·subst e
   simp only [if_pos]
   refine⟨?_,?_,?_,?_,?_⟩
   ·rw[Array.getElem?_setIfInBounds_ne (by omega),Array.getElem?_setIfInBounds_ne (by omega),Array.getElem?_setIfInBounds_ne (by omega),Array.getElem?_setIfInBounds_self_of_lt (by omega)]
   ·rw[Array.getElem?_setIfInBounds_ne (by omega),Array.getElem?_setIfInBounds_ne (by omega),Array.getElem?_setIfInBounds_self_of_lt (by simp; omega)]
   ·rw[Array.getElem?_setIfInBounds_ne (by omega),Array.getElem?_setIfInBounds_self_of_lt (by simp; omega)]
   ·rw[Array.getElem?_setIfInBounds_self_of_lt (by simp; omega)]
   ·rw[Array.getElem?_setIfInBounds_ne (by omega),Array.getElem?_setIfInBounds_ne (by omega),Array.getElem?_setIfInBounds_ne (by omega),Array.getElem?_setIfInBounds_ne (by omega)]; exact q4
  ·simp only [if_neg e]
   refine⟨?_,?_,?_,?_,?_⟩
   all_goals rw [Array.getElem?_setIfInBounds_ne (by omega),Array.getElem?_setIfInBounds_ne (by omega),Array.getElem?_setIfInBounds_ne (by omega),Array.getElem?_setIfInBounds_ne (by omega)]
   all_goals assumption
 ·rw[en i,ef i]
  refine (h4 i hi).keep (fun hn=>?_)
  have hne:G i≠g:=h5 i hi hn
  repeat rw [heap_setCell_other _ _ _ _ (by exact hne)]
theorem ROwnA.row (h:ROwnA w base g m R A G C) (j:Nat) (hj:j < m) (f':Nat→Int) (hrow:RowOwn w' base (A j) (G j) (R j).n (C j) f') (hk:∀ b,b < w.heap.size→(0 < (R j).n→b≠G j)→w'.heap[b]?=w.heap[b]?):ROwnA w' base g m (updR R j ⟨(R j).x0,(R j).x1,(R j).x2,(R j).x3,(R j).n,f'⟩) A G C:=by
 have hg:=h.lt
 obtain⟨h1,⟨cur,hc,h2,h3⟩,h4,h5,h6⟩:=h
 have en:∀ i,(updR R j ⟨(R j).x0,(R j).x1,(R j).x2,(R j).x3,(R j).n,f'⟩ i).n=(R i).n:=fun i=>by
  unfold updR
  split
  ·rename_i e; rw [e]
  ·rfl
 refine⟨h1,⟨cur,(hk g hg (fun hn e=>h5 j hj hn e.symm)).trans hc,h2,fun i hi=>?_⟩,fun i hi=>?_,fun i hi hn=>h5 i hi (by rw [← en i]; exact hn),fun i k hi hk hne hn1 hn2=>h6 i k hi hk hne (by rw [← en i]; exact hn1) (by rw [← en k]; exact hn2)⟩
 ·have:=h3 i hi
  unfold updR
  by_cases e:i=j
  ·subst e; simpa [HeadAt] using this
  ·simpa [e] using this
 ·by_cases e:i=j
  ·subst e
   rw[updR_same]
   exact hrow
  ·rw[updR_other _ _ e]
   exact (h4 i hi).keep (fun hn=>hk _ ((h4 i hi).lt hn).1 (fun hn2=>h6 i j hi hj e hn hn2))
theorem ROwnA.congr {S:Nat→Ras} (h:ROwnA w base g m R A G C) (e:∀ j,j < m→R j=S j):ROwnA w base g m S A G C:=by
 obtain⟨h1,⟨cur,hc,h2,h3⟩,h4,h5,h6⟩:=h
 refine⟨h1,⟨cur,hc,h2,fun j hj=>by rw [← e j hj]; exact h3 j hj⟩,fun j hj=>by rw [← e j hj]; exact h4 j hj,fun j hj=>by rw [← e j hj]; exact h5 j hj,fun i j hi hj=>by rw [← e i hi,← e j hj]; exact h6 i j hi hj⟩
end
def RMarkI (w w':World) (base g m:Nat) (R:Nat→Ras) (k:Int) (A:Nat→Option Addr) (G C:Nat→Nat) (Hi j:Nat):Prop:=ROwnA w' base g m (fun i=>if i < j then markR R k i else R i) A G C∧Below base w w'∧∀ b,Hi≤b→b < w.heap.size→w'.heap[b]?=w.heap[b]?
def ROwnH (w:World) (base g m:Nat) (R:Nat→Ras) (Hi:Nat):Prop:=∃ A G C,ROwnA w base g m R A G C∧g < Hi∧∀ j,j < m→0 < (R j).n→G j < Hi
theorem ROwn.high {w:World} {base g m:Nat} {R:Nat→Ras} (h:ROwn w base g m R):ROwnH w base g m R w.heap.size:=by
 obtain⟨A,G,C,h⟩:=h
 exact⟨A,G,C,h,h.lt,fun j hj hn=>((h.2.2.1 j hj).lt hn).1⟩
theorem ROwnH.called {w w':World} {base g m Hi:Nat} {R:Nat→Ras} (h:ROwnH w base g m R Hi) (hb:Below w.heap.size w w'):ROwnH w' base g m R Hi:=by
 obtain⟨A,G,C,h,h2⟩:=h
 exact⟨A,G,C,h.keep (fun b _ hb'=>hb.block b hb'),h2⟩
theorem ROwnH.own {w:World} {base g m Hi:Nat} {R:Nat→Ras} (h:ROwnH w base g m R Hi):ROwn w base g m R:=by
 obtain⟨A,G,C,h,_⟩:=h
 exact⟨A,G,C,h⟩
set_option maxRecDepth 100000 in
set_option maxHeartbeats 3200000 in
theorem markRasterS_high (base g m c Hi:Nat) (R:Nat→Ras) (k:Int) (w:World) (ha:ROwnH w base g m R Hi) (hm:m≤1048576) (hn:∀ j,j < m→(R j).n≤1048576) (hK:∀ j,j≤m→0≤markK R k j∧markK R k j≤1000000000):
  Calls Tryd.prog 24 #[.slice (some ⟨g,0,none⟩) m c,.int .i64 k] w fun e w'=>e=.returned (.int .i64 (markK R k m))∧ROwn w' base g m (markR R k)∧Below base w w'∧∀ b,Hi≤b→b < w.heap.size→w'.heap[b]?=w.heap[b]?:=by
 obtain⟨A,G,C,ha,hgH,hGH⟩:=ha
 have HGH:=hid_of hGH
 clear hGH
 have H0:Hid (RMarkI w w base g m R k A G C Hi 0):=⟨ha.congr (fun i _=>by rw [if_neg (Nat.not_lt_zero i)]),Below.refl _ _,fun _ _ _=>rfl⟩
 have HN:=hid_of hn
 have HK:=hid_of hK
 clear ha hn hK
 go_enter Tryd.func24,Tryd.ntmps24
 go_wp2_with fail
 go_loopw [1,5] (fun z i w'=>∃ j:Nat,j≤m∧i=.int .i64 (j:Int)∧z=.int .i64 (markK R k j)∧Hid (RMarkI w w' base g m R k A G C Hi j)) (fun _ i _=>m - (intOf i).toNat)
 case atStart=>exact⟨0,Nat.zero_le _,rfl,rfl,H0⟩
 case round=>
  clear H0
  obtain⟨j,hj,rfl,rfl,hS⟩:=hrel
  by_cases hlt:j < m
  ·have dl:decide ((j:Int) < (m:Int))=true:=decide_eq_true (by omega)
   obtain⟨hO,hB,hHi⟩:=hS.out
   have hGj:=HGH.out j hlt
   obtain⟨k0,k1,k2,k3,k4⟩:=hO.at_ j hlt
   simp only [if_neg (Nat.lt_irrefl j)] at k0 k1 k2 k3 k4
   have fz:=hO.free
   have gl:=hO.lt
   have gb:base≤g:=hO.1
   have hk:=HK.out j hj
   have hk2:=HK.out (j+1) hlt
   have HE:Hid (markK R k (j+1)=markK R k j+1+1+1+1+((R j).n:Int)):=rfl
   have hnj:=HN.out j hlt
   rw[HE.out] at hk2
   have HW:Hid (ROwnA ((((wr.setCell ⟨g,j * 5,none⟩ (.int .i64 (markK R k j))).setCell ⟨g,j * 5+1,none⟩ (.int .i64 (markK R k j+1))).setCell ⟨g,j * 5+2,none⟩ (.int .i64 (markK R k j+1+1))).setCell ⟨g,j * 5+3,none⟩ (.int .i64 (markK R k j+1+1+1))) base g m (updR (fun i=>if i < j then markR R k i else R i) j ⟨markK R k j,markK R k j+1,markK R k j+1+1,markK R k j+1+1+1,(R j).n,(R j).f⟩) A G C):=by
    have q:=hO.head j hlt (markK R k j) (markK R k j+1) (markK R k j+1+1) (markK R k j+1+1+1)
    simp only [if_neg (Nat.lt_irrefl j)] at q
    exact q
   have HWB:Hid (Below base w ((((wr.setCell ⟨g,j * 5,none⟩ (.int .i64 (markK R k j))).setCell ⟨g,j * 5+1,none⟩ (.int .i64 (markK R k j+1))).setCell ⟨g,j * 5+2,none⟩ (.int .i64 (markK R k j+1+1))).setCell ⟨g,j * 5+3,none⟩ (.int .i64 (markK R k j+1+1+1)))):=by
    iterate 4 refine Below.setCell ?_ (by exact gb) _
    exact hB
   have HWH:Hid (∀ b,Hi≤b→b < w.heap.size→((((wr.setCell ⟨g,j * 5,none⟩ (.int .i64 (markK R k j))).setCell ⟨g,j * 5+1,none⟩ (.int .i64 (markK R k j+1))).setCell ⟨g,j * 5+2,none⟩ (.int .i64 (markK R k j+1+1))).setCell ⟨g,j * 5+3,none⟩ (.int .i64 (markK R k j+1+1+1))).heap[b]?=w.heap[b]?):=fun b h1 h2=>by
    have hne:b≠g:=by omega
    repeat rw [heap_setCell_other _ _ _ _ (by exact hne)]
    exact hHi b h1 h2
   have hwsz:=hB.size
   have HSUM:Hid (∀ W1 W2:World,ROwnA W1 base g m (updR (fun i=>if i < j then markR R k i else R i) j ⟨markK R k j,markK R k j+1,markK R k j+1+1,markK R k j+1+1+1,(R j).n,(R j).f⟩) A G C→Below base w W1→(∀ b,Hi≤b→b < w.heap.size→W1.heap[b]?=w.heap[b]?)→(RowOwn W2 base (A j) (G j) (R j).n (C j) (fun i=>markK R k j+1+1+1+1+i))→(∀ b,b < W1.heap.size→(0 < (R j).n→b≠G j)→W2.heap[b]?=W1.heap[b]?)→Below base W1 W2→RMarkI w W2 base g m R k A G C Hi (j+1)):=by
    intro W1 W2 q1 q2 qh q3 q4 q5
    have r:=q1.row j hlt (fun i=>markK R k j+1+1+1+1+i) (by rw [updR_same]; exact q3) (by rw [updR_same]; exact q4)
    refine⟨r.congr (fun i hi=>?_),q2.trans q5,fun b h1 h2=>(q4 b (Nat.lt_of_lt_of_le h2 q2.size) (fun hn=>by have:=hGj hn; omega)).trans (qh b h1 h2)⟩
    by_cases e:i=j
    ·subst e
     rw[updR_same,updR_same,if_pos (Nat.lt_succ_self i)]
     rfl
    ·rw[updR_other _ _ e,updR_other _ _ e]
     by_cases e2:i < j
     ·rw[if_pos e2,if_pos (by omega)]
     ·rw[if_neg e2,if_neg (by omega)]
   clear hO hB hHi
   have HRO:Hid (RowOwn ((((wr.setCell ⟨g,j * 5,none⟩ (.int .i64 (markK R k j))).setCell ⟨g,j * 5+1,none⟩ (.int .i64 (markK R k j+1))).setCell ⟨g,j * 5+2,none⟩ (.int .i64 (markK R k j+1+1))).setCell ⟨g,j * 5+3,none⟩ (.int .i64 (markK R k j+1+1+1))) base (A j) (G j) (R j).n (C j) (R j).f):=by
    have q:=HW.out.2.2.1 j hlt
    rw[updR_same] at q
    exact q
   go_wp2_with fail
   generalize (((wr.setCell ⟨g,j * 5,none⟩ (.int .i64 (markK R k j))).setCell ⟨g,j * 5+1,none⟩ (.int .i64 (markK R k j+1))).setCell ⟨g,j * 5+2,none⟩ (.int .i64 (markK R k j+1+1))).setCell ⟨g,j * 5+3,none⟩ (.int .i64 (markK R k j+1+1+1))=W1 at HW HWB HWH HRO ⊢
   rcases Nat.eq_zero_or_pos (R j).n with h0 | h0
   ·have hz:=fun W=>markIntS_none (A j) (C j) (markK R k j+1+1+1+1) W
    rw[← h0] at hz
    refine (hz _).mono ?_
    rintro e w4 ⟨rfl,rfl⟩
    have HN1:Hid (RMarkI w w4 base g m R k A G C Hi (j+1)):=HSUM.out w4 w4 HW.out HWB.out HWH.out ⟨HRO.out.1,HRO.out.2.1,.inl h0⟩ (fun _ _ _=>rfl) (Below.refl _ _)
    have HE2:Hid (markK R k (j+1)=markK R k j+1+1+1+1):=by show _=_; rw [HE.out,h0]; simp
    clear HSUM HW HWB HWH HRO
    go_wp2_with fail
    go_roundw
    case rel=>exact⟨j+1,by omega,by go_num,by rw [HE2.out],HN1⟩
    case measure=>simp [intOf]; omega
   ·obtain⟨hAj,hOj⟩:A j=some ⟨G j,0,none⟩∧IOwn W1 base (G j) (R j).n (C j) (R j).f:=by
     rcases HRO.out.2.2 with q | q
     ·omega
     ·exact q
    have hmk:=markIntS_own base (G j) (R j).n (C j) (R j).f (markK R k j+1+1+1+1) W1 hOj hnj (by omega) (by omega)
    rw[← hAj] at hmk
    refine hmk.mono ?_
    rintro e w4 ⟨rfl,hO4,hg4⟩
    have HN1:Hid (RMarkI w w4 base g m R k A G C Hi (j+1)):=HSUM.out W1 w4 HW.out HWB.out HWH.out ⟨HRO.out.1,HRO.out.2.1,.inr ⟨hAj,hO4⟩⟩ (fun b hb hne=>hg4.block b hb (fun e=>hne h0 (Option.some.inj e))) ⟨hg4.os,hg4.tape,hg4.output,hg4.size,fun b hb=>by
     rcases Nat.lt_or_ge b W1.heap.size with q | q
     ·exact hg4.block b q (fun e=>by have:=hOj.base_le; have:=Option.some.inj e; omega)
     ·have:=hOj.base_le
      have:=hOj.lt
      omega⟩
    clear HSUM HW HWB HWH HRO hO4 hg4 hmk hOj
    go_wp2_with fail
    go_roundw
    case rel=>exact⟨j+1,by omega,by go_num,by rw [HE.out],HN1⟩
    case measure=>simp [intOf]; omega
  ·obtain rfl:j=m:=by omega
   have dl:decide ((j:Int) < (j:Int))=false:=decide_eq_false (by omega)
   have HZ:Hid (ROwn wr base g j (markR R k)∧Below base w wr∧∀ b,Hi≤b→b < w.heap.size→wr.heap[b]?=w.heap[b]?):=⟨⟨A,G,C,hS.out.1.congr (fun i hi=>by rw [if_pos hi])⟩,hS.out.2⟩
   go_wp2_with fail
   go_ret
   exact⟨rfl,HZ.out⟩
theorem markRasterS_own (base g m c:Nat) (R:Nat→Ras) (k:Int) (w:World) (ha:ROwn w base g m R) (hm:m≤1048576) (hn:∀ j,j < m→(R j).n≤1048576) (hK:∀ j,j≤m→0≤markK R k j∧markK R k j≤1000000000):
  Calls Tryd.prog 24 #[.slice (some ⟨g,0,none⟩) m c,.int .i64 k] w fun e w'=>e=.returned (.int .i64 (markK R k m))∧ROwn w' base g m (markR R k)∧Below base w w':=
 (markRasterS_high base g m c w.heap.size R k w ha.high hm hn hK).mono fun _ _ ⟨q1,q2,q3,_⟩=>⟨q1,q2,q3⟩
end
section
open Go.RowKit Go.Joins
theorem grown_of_alloc {w w':World} {o:Obj} {row:Option Nat} (h:(w.alloc o).grownBy w' row):w.grownBy w' row:=
 ⟨h.os,h.tape,h.output,Nat.le_trans (by simp) h.size,fun k hk hne=>(h.block k (by simp; omega) hne).trans (Below.heap_alloc w o k hk)⟩
theorem markRaster_own (x0 x1 x2 x3:Int) (base g n cap:Nat) (f:Nat→Int) (k:Int) (w:World) (hO:IOwn w base g n cap f) (hn:n≤1048576) (h0:0≤k) (h1:k≤1073741824):
  Calls Tryd.prog 23 #[.agg #[.int .i64 x0,.int .i64 x1,.int .i64 x2,.int .i64 x3,.slice (some ⟨g,0,none⟩) n cap],.int .i64 k] w fun e w'=>e=.returned (.int .i64 (k+n))∧w.grownBy w' (some g):=by
 have HO:=hid_of hO
 clear hO
 go_enter Tryd.func23,Tryd.ntmps23
 go_wp2_with fail
 refine (markIntS_own base g n cap f k _ (HO.out.alloc _) hn h0 h1).mono ?_
 rintro e w2 ⟨rfl,_,hg⟩
 have HG:=hid_of (grown_of_alloc hg)
 clear hg
 go_wp2_with fail
 go_ret
 exact⟨rfl,HG.out⟩
theorem markRasterS_none (a:Option Addr) (c:Nat) (k:Int) (w:World):Calls Tryd.prog 24 #[.slice a 0 c,.int .i64 k] w fun e w'=>e=.returned (.int .i64 k)∧w'=w:=by
 go_enter Tryd.func24,Tryd.ntmps24
 go_wp2_with fail
 go_loop [1,5] (fun z i=>i=.int .i64 0∧z=.int .i64 k) (fun _ _=>0)
 case atStart=>exact⟨rfl,rfl⟩
 case round=>
  obtain⟨rfl,rfl⟩:=hrel
  go_wp2_with fail
  go_ret
  exact⟨rfl,rfl⟩
theorem markRasterS_sl (base:Nat) (a:Option Addr) (m c:Nat) (R:Nat→Ras) (k:Int) (w:World) (hS:RSL w base a m R) (hm:m≤1048576) (hn:∀ j,j < m→(R j).n≤1048576) (hK:∀ j,j≤m→0≤markK R k j∧markK R k j≤1000000000):
  Calls Tryd.prog 24 #[.slice a m c,.int .i64 k] w fun e w'=>e=.returned (.int .i64 (markK R k m))∧RSL w' base a m (markR R k)∧Below base w w':=by
 rcases hS with rfl | ⟨g,rfl,h⟩
 ·refine (markRasterS_none a c k w).mono ?_
  rintro e w1 ⟨rfl,rfl⟩
  exact⟨rfl,.inl rfl,Below.refl _ _⟩
 ·refine (markRasterS_own base g m c R k w h hm hn hK).mono ?_
  rintro e w1 ⟨rfl,hO,hB⟩
  exact⟨rfl,.inr ⟨g,rfl,hO⟩,hB⟩
theorem RCame.other {w0 w w':World} {a:Option Addr} {m g:Nat} {R:Nat→Ras} (_:RCame w a m R) (h0:RCame w0 a m R) (hg:w.grownBy w' (some g)) (hb:Below w0.heap.size w0 w) (hn:w0.heap.size≤g):RCame w' a m R:=
 h0.called ⟨hg.os.trans hb.os,hg.tape.trans hb.tape,hg.output.trans hb.output,Nat.le_trans hb.size hg.size,fun k hk=>(hg.block k (Nat.lt_of_lt_of_le hk hb.size) (fun e=>by have:=Option.some.inj e; omega)).trans (hb.block k hk)⟩
theorem RSL.other {w w':World} {base:Nat} {a:Option Addr} {m g:Nat} {R:Nat→Ras} (h:RSL w base a m R) (hg:w.grownBy w' (some g)) (hn:g < base):RSL w' base a m R:=by
 rcases h with h | ⟨g1,rfl,A,G,C,h⟩
 ·exact .inl h
 ·exact .inr ⟨g1,rfl,A,G,C,h.keep (fun b hb hl=>hg.block b hl (fun e=>by have:=Option.some.inj e; omega))⟩
end
end Go.Proofs.YtcbbcadfolgioaaDoor
