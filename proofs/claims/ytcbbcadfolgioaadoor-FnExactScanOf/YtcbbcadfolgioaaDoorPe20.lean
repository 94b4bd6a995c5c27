/-
  Texts of the proof, put together.
-/
import Derived.Test.YtcbbcadfolgioaaDoorPe19
namespace Go.Proofs.YtcbbcadfolgioaaDoor
open Go.RowKit Go.Joins TakeMath FiltMath
set_option maxRecDepth 100000 in
set_option maxHeartbeats 3200000 in
theorem filtWeight_0 (r u:Nat→Int) (unit n gr cr ga ca:Nat) (w:World) (hu:1≤unit∧unit≤8) (hn:n≤200) (hr:∀ i,0≤r i∧r i < 256) (hub:∀ i,0≤u i∧u i < 256) (hR:BAt w gr n r) (hA:BAt w ga n u):
  Calls Tryd.prog 107 #[.int .i64 0,.slice (some ⟨gr,0,none⟩) n cr,.slice (some ⟨ga,0,none⟩) n ca,.int .i64 (unit:Int)] w fun e w'=>e=.returned (.int .i64 (wsum (filtB 0 r u unit) n))∧Below w.heap.size w w':=by
 have HR8:=hid_of hr
 have HU8:=hid_of hub
 have HRR:=hid_of hR
 clear hR
 have HAA:=hid_of hA
 clear hr hub hA
 go_enter Tryd.func107,Tryd.ntmps107
 go_wp2_with fail
 refine (kinds_any _).mono ?_
 rintro e w1 ⟨rfl,hm,hB1⟩
 have lk:(Instr.lookup 109 (.map (some w.heap.size)) (.int .i64 0) false).run Tryd.prog w1=.ok (fnV 108) w1:=kind_take hm 0 (by omega)
 have H0:=hid_of hB1
 clear hm hB1
 go_wp2_with fail
 go_loopw [10,17] (fun v i w'=>∃ j:Nat,j≤n∧i=.int .i64 (j:Int)∧v=.int .i64 (wsum (filtB 0 r u unit) j)∧Hid (Below w.heap.size w w')) (fun _ i _=>n - (intOf i).toNat)
 case atStart=>exact⟨0,Nat.zero_le _,rfl,rfl,H0⟩
 case round=>
  clear H0 lk
  obtain⟨j,hj,rfl,rfl,hS⟩:=hrel
  by_cases hlt:j < n
  ·have hRr:=HRR.out.called hS.out
   have hAr:=HAA.out.called hS.out
   obtain⟨hbl,hcr⟩:=hRr
   have cb':=hcr j hlt
   have hrow:unit≤j→∃ g,(some ⟨gr,0,none⟩:Option Addr)=some ⟨g,0,none⟩∧j - unit < n∧g < wr.drew.heap.size∧wr.drew.cell? ⟨g,j - unit,none⟩=some (.int .u8 (r (j - unit))):=fun _=>⟨_,rfl,by omega,hbl,hcr (j - unit) (by omega)⟩
   clear hcr
   have hbes:=beside_any (some ⟨gr,0,none⟩) n cr r u ga n ca unit j wr.drew hu hlt hn HR8.out HU8.out hAr.drew hrow
   obtain⟨X,hX⟩:∃ X,X=r j:=⟨_,rfl⟩
   have hX0:0≤X∧X < 256:=by rw [hX]; exact HR8.out j
   rw[← hX] at cb'
   clear hrow hAr
   obtain⟨L,hL⟩:∃ L,L=aheadB r unit j:=⟨_,rfl⟩
   obtain⟨U,hU⟩:∃ U,U=u j:=⟨_,rfl⟩
   obtain⟨C,hC⟩:∃ C,C=aheadB u unit j:=⟨_,rfl⟩
   rw[← hL,← hU,← hC] at hbes
   have hL0:0≤L∧L < 256:=by rw [hL]; exact ahead_byte HR8.out _ _
   have hU0:0≤U∧U < 256:=by rw [hU]; exact HU8.out j
   have hC0:0≤C∧C < 256:=by rw [hC]; exact ahead_byte HU8.out _ _
   have hkd:=fun W=>nothing_any L U C W
   have HY:Hid (told 0 L U C=says 0 r u unit j):=by
    show _=_
    unfold says
    rw[hL,hU,hC]
   obtain⟨Y,hY⟩:∃ Y,Y=told 0 L U C:=⟨_,rfl⟩
   have hY0:0≤Y∧Y < 256:=by rw [hY]; exact told_byte 0 hL0 hU0 hC0
   rw[← hY] at hkd HY
   obtain⟨Z,hZ⟩:∃ Z,Z=(X+256 - Y) % 256:=⟨_,rfl⟩
   have hZ0:0≤Z∧Z < 256:=by omega
   have u8w:IntKind.u8.wrap (X - Y)=Z:=by show (X - Y) % 256=Z; omega
   have HN:Hid (Z=filtB 0 r u unit j):=by
    show Z=_
    unfold filtB
    rw[← HY.out,← hX,hZ]
   have hwr:=wsum_range (r:=filtB 0 r u unit) (fun i=>filtB_byte _ _ _ _ _) j
   have HNW:Hid (wsum (filtB 0 r u unit) (j+1)=wsum (filtB 0 r u unit) j+wgt Z):=by
    show wsum (filtB 0 r u unit) j+wgt (filtB 0 r u unit j)=_
    rw[← HN.out]
   have hzw:=wgt_range Z hZ0
   have hbw:=fun W=>byteWeight_any Z W hZ0
   generalize wsum (filtB 0 r u unit) j=V at *
   generalize wgt Z=T at *
   have wvt:IntKind.i64.wrap (V+T)=V+T:=by rw [IntKind.wrap_i64]; omega
   have u8y:IntKind.u8.wrap Y=Y:=by show Y % 256=Y; omega
   have dl:decide ((j:Int) < (n:Int))=true:=decide_eq_true (by omega)
   have x0:(0:Int)≤(j:Int):=by omega
   have x1:(j:Int) < (n:Int):=by omega
   clear hX hY hZ hL hU hC
   go_wp2_with fail
   refine wp_region_held (S:=fun u=>u.cell? ⟨gr,j,none⟩=some (.int .u8 X)∧gr < u.heap.size) (by kernel_rfl) ?_
   show wpAnyH _ _ _ _ _ _ _ _ wr.drew
   have HS:wr.drew.cell? ⟨gr,j,none⟩=some (.int .u8 X)∧gr < wr.drew.heap.size:=⟨cb',hbl⟩
   refine wpAnyH_take (i:=0) (v:=.int .i64 V) rfl (by kernel_rfl) (by kernel_rfl) (by kernel_rfl) (fun _ _ _ h=>h) (Or.inl ⟨by rfl,?_⟩) HS ?_
   ·intro w' hS
    obtain⟨s0,s1⟩:=hS
    go_simp
   simp only [Act.put,List.getElem_toArray,List.getElem_cons_zero,List.setIfInBounds_toArray,List.set_cons_zero,List.set_cons_succ]
   refine wpAnyH_take (i:=1) (v:=.slice (some ⟨gr,0,none⟩) n cr) rfl (by kernel_rfl) (by kernel_rfl) (by kernel_rfl) (fun _ _ _ h=>h) (Or.inl ⟨by rfl,?_⟩) HS ?_
   ·intro w' hS
    obtain⟨s0,s1⟩:=hS
    go_simp
   simp only [Act.put,List.getElem_toArray,List.getElem_cons_zero,List.getElem_cons_succ,List.setIfInBounds_toArray,List.set_cons_zero,List.set_cons_succ]
   refine wpAnyH_take (i:=2) (v:=.int .i64 (j:Int)) rfl (by kernel_rfl) (by kernel_rfl) (by kernel_rfl) (fun _ _ _ h=>h) (Or.inl ⟨by rfl,?_⟩) HS ?_
   ·intro w' hS
    obtain⟨s0,s1⟩:=hS
    go_simp
   simp only [Act.put,List.getElem_toArray,List.getElem_cons_zero,List.getElem_cons_succ,List.setIfInBounds_toArray,List.set_cons_zero,List.set_cons_succ]
   refine wpAnyH_take (i:=3) (v:=.pointer (some ⟨gr,j,none⟩)) rfl (by kernel_rfl) (by kernel_rfl) (by kernel_rfl) (fun _ _ _ h=>h) (Or.inl ⟨by rfl,?_⟩) HS ?_
   ·intro w' hS
    obtain⟨s0,s1⟩:=hS
    go_simp
   simp only [Act.put,List.getElem_toArray,List.getElem_cons_zero,List.getElem_cons_succ,List.setIfInBounds_toArray,List.set_cons_zero,List.set_cons_succ]
   refine wpAnyH_take (i:=4) (v:=.int .u8 X) rfl (by kernel_rfl) (by kernel_rfl) (by kernel_rfl) (fun _ _ _ h=>h) (Or.inl ⟨by rfl,?_⟩) HS ?_
   ·intro w' hS
    obtain⟨s0,s1⟩:=hS
    go_simp
   simp only [Act.put,List.getElem_toArray,List.getElem_cons_zero,List.getElem_cons_succ,List.setIfInBounds_toArray,List.set_cons_zero,List.set_cons_succ]
   refine wpAnyH_take (i:=5) (v:=fnV 108) rfl (by kernel_rfl) (by kernel_rfl) (by kernel_rfl) (fun _ _ _ h=>h) (Or.inl ⟨by rfl,?_⟩) HS ?_
   ·intro w' hS
    obtain⟨s0,s1⟩:=hS
    go_simp
   simp only [Act.put,List.getElem_toArray,List.getElem_cons_zero,List.getElem_cons_succ,List.setIfInBounds_toArray,List.set_cons_zero,List.set_cons_succ]
   refine wpAnyH_take (i:=6) (v:=.slice (some ⟨gr,0,none⟩) n cr) rfl (by kernel_rfl) (by kernel_rfl) (by kernel_rfl) (fun _ _ _ h=>h) (Or.inl ⟨by rfl,?_⟩) HS ?_
   ·intro w' hS
    obtain⟨s0,s1⟩:=hS
    go_simp
   simp only [Act.put,List.getElem_toArray,List.getElem_cons_zero,List.getElem_cons_succ,List.setIfInBounds_toArray,List.set_cons_zero,List.set_cons_succ]
   refine wpAnyH_take (i:=7) (v:=.slice (some ⟨ga,0,none⟩) n ca) rfl (by kernel_rfl) (by kernel_rfl) (by kernel_rfl) (fun _ _ _ h=>h) (Or.inl ⟨by rfl,?_⟩) HS ?_
   ·intro w' hS
    obtain⟨s0,s1⟩:=hS
    go_simp
   simp only [Act.put,List.getElem_toArray,List.getElem_cons_zero,List.getElem_cons_succ,List.setIfInBounds_toArray,List.set_cons_zero,List.set_cons_succ]
   refine wpAnyH_take (i:=8) (v:=.int .i64 (j:Int)) rfl (by kernel_rfl) (by kernel_rfl) (by kernel_rfl) (fun _ _ _ h=>h) (Or.inl ⟨by rfl,?_⟩) HS ?_
   ·intro w' hS
    obtain⟨s0,s1⟩:=hS
    go_simp
   simp only [Act.put,List.getElem_toArray,List.getElem_cons_zero,List.getElem_cons_succ,List.setIfInBounds_toArray,List.set_cons_zero,List.set_cons_succ]
   refine wpAnyH_take (i:=9) (v:=.int .i64 (unit:Int)) rfl (by kernel_rfl) (by kernel_rfl) (by kernel_rfl) (fun _ _ _ h=>h) (Or.inl ⟨by rfl,?_⟩) HS ?_
   ·intro w' hS
    obtain⟨s0,s1⟩:=hS
    go_simp
   simp only [Act.put,List.getElem_toArray,List.getElem_cons_zero,List.getElem_cons_succ,List.setIfInBounds_toArray,List.set_cons_zero,List.set_cons_succ]
   refine wpAnyH_ready (rs:=[10]) (by kernel_rfl) (by simp) ?_
   refine AllReadyH.cons rfl (fun K hK=>?_) AllReadyH.nil
   refine if_wanted (wanted_none rfl) ?_
   simp only [List.getElem_toArray,List.getElem_cons_zero,List.getElem_cons_succ]
   go_simp
   refine hbes.mono ?_
   rintro e w4 ⟨rfl,hB4⟩
   have HB4:Hid (Below wr.heap.size wr w4):=⟨hB4.1,hB4.2,hB4.3,hB4.4,hB4.5⟩
   have cb4:w4.cell? ⟨gr,j,none⟩=some (.int .u8 X):=((bcell HB4.out).1 _ _ hbl).trans cb'
   have hb4:gr < w4.heap.size:=Nat.lt_of_lt_of_le hbl HB4.out.size
   clear hB4 hbes HS
   refine hK.out _ _ ⟨cb4,hb4⟩ (fun HS=>?_)
   clear hK K
   refine wpAnyH_ready (rs:=[11]) (by kernel_rfl) (by simp) ?_
   refine AllReadyH.cons rfl (fun K hK=>?_) AllReadyH.nil
   refine if_wanted (wanted_none rfl) ?_
   simp only [List.getElem_toArray,List.getElem_cons_zero,List.getElem_cons_succ]
   go_simp
   refine (hkd _).mono ?_
   rintro e w5 ⟨rfl,hB5⟩
   have HB5:Hid (Below wr.heap.size wr w5):=bnext HB4.out hB5
   have cb5:w5.cell? ⟨gr,j,none⟩=some (.int .u8 X):=((bcell HB5.out).1 _ _ hbl).trans cb'
   have hb5:gr < w5.heap.size:=Nat.lt_of_lt_of_le hbl HB5.out.size
   clear hB5 hkd HB4 HS cb4 hb4
   refine hK.out _ _ ⟨cb5,hb5⟩ (fun HS=>?_)
   clear hK K
   refine wpAnyH_take (i:=12) (v:=.int .u8 Y) rfl (by kernel_rfl) (by kernel_rfl) (by kernel_rfl) (fun _ _ _ h=>h) (Or.inl ⟨by rfl,?_⟩) HS ?_
   ·intro w' hS
    obtain⟨s0,s1⟩:=hS
    go_simp
   simp only [Act.put,List.getElem_toArray,List.getElem_cons_zero,List.getElem_cons_succ,List.setIfInBounds_toArray,List.set_cons_zero,List.set_cons_succ]
   refine wpAnyH_take (i:=13) (v:=.int .u8 Z) rfl (by kernel_rfl) (by kernel_rfl) (by kernel_rfl) (fun _ _ _ h=>h) (Or.inl ⟨by rfl,?_⟩) HS ?_
   ·intro w' hS
    obtain⟨s0,s1⟩:=hS
    go_simp
   simp only [Act.put,List.getElem_toArray,List.getElem_cons_zero,List.getElem_cons_succ,List.setIfInBounds_toArray,List.set_cons_zero,List.set_cons_succ]
   refine wpAnyH_ready (rs:=[14]) (by kernel_rfl) (by simp) ?_
   refine AllReadyH.cons rfl (fun K hK=>?_) AllReadyH.nil
   refine if_wanted (wanted_none rfl) ?_
   simp only [List.getElem_toArray,List.getElem_cons_zero,List.getElem_cons_succ]
   go_simp
   refine (hbw _).mono ?_
   rintro e w6 ⟨rfl,rfl⟩
   refine hK.out _ _ ⟨cb5,hb5⟩ (fun HS=>?_)
   clear hK K
   refine wpAnyH_take (i:=15) (v:=.int .i64 (V+T)) rfl (by kernel_rfl) (by kernel_rfl) (by kernel_rfl) (fun _ _ _ h=>h) (Or.inl ⟨by rfl,?_⟩) HS ?_
   ·intro w' hS
    obtain⟨s0,s1⟩:=hS
    go_simp
   simp only [Act.put,List.getElem_toArray,List.getElem_cons_zero,List.getElem_cons_succ,List.setIfInBounds_toArray,List.set_cons_zero,List.set_cons_succ]
   refine wpAnyH_take (i:=16) (v:=.int .i64 (V+T)) rfl (by kernel_rfl) (by kernel_rfl) (by kernel_rfl) (fun _ _ _ h=>h) (Or.inl ⟨by rfl,?_⟩) HS ?_
   ·intro w' hS
    obtain⟨s0,s1⟩:=hS
    go_simp
   simp only [Act.put,List.getElem_toArray,List.getElem_cons_zero,List.getElem_cons_succ,List.setIfInBounds_toArray,List.set_cons_zero,List.set_cons_succ]
   refine wpAnyH_done (by kernel_rfl) ?_ _
   go_wp2_with fail
   go_roundw
   case rel=>exact⟨j+1,by omega,by go_num,by rw [HNW.out],bnext hS.out HB5.out⟩
   case measure=>simp [intOf]; omega
  ·obtain rfl:j=n:=by omega
   have dl:decide ((j:Int) < (j:Int))=false:=decide_eq_false (by omega)
   go_wp2_with fail
   go_ret
   exact⟨rfl,hS.out⟩
set_option maxRecDepth 100000 in
set_option maxHeartbeats 3200000 in
theorem filtWeight_1 (r u:Nat→Int) (unit n gr cr ga ca:Nat) (w:World) (hu:1≤unit∧unit≤8) (hn:n≤200) (hr:∀ i,0≤r i∧r i < 256) (hub:∀ i,0≤u i∧u i < 256) (hR:BAt w gr n r) (hA:BAt w ga n u):
  Calls Tryd.prog 107 #[.int .i64 1,.slice (some ⟨gr,0,none⟩) n cr,.slice (some ⟨ga,0,none⟩) n ca,.int .i64 (unit:Int)] w fun e w'=>e=.returned (.int .i64 (wsum (filtB 1 r u unit) n))∧Below w.heap.size w w':=by
 have HR8:=hid_of hr
 have HU8:=hid_of hub
 have HRR:=hid_of hR
 clear hR
 have HAA:=hid_of hA
 clear hr hub hA
 go_enter Tryd.func107,Tryd.ntmps107
 go_wp2_with fail
 refine (kinds_any _).mono ?_
 rintro e w1 ⟨rfl,hm,hB1⟩
 have lk:(Instr.lookup 109 (.map (some w.heap.size)) (.int .i64 1) false).run Tryd.prog w1=.ok (fnV 109) w1:=kind_take hm 1 (by omega)
 have H0:=hid_of hB1
 clear hm hB1
 go_wp2_with fail
 go_loopw [10,17] (fun v i w'=>∃ j:Nat,j≤n∧i=.int .i64 (j:Int)∧v=.int .i64 (wsum (filtB 1 r u unit) j)∧Hid (Below w.heap.size w w')) (fun _ i _=>n - (intOf i).toNat)
 case atStart=>exact⟨0,Nat.zero_le _,rfl,rfl,H0⟩
 case round=>
  clear H0 lk
  obtain⟨j,hj,rfl,rfl,hS⟩:=hrel
  by_cases hlt:j < n
  ·have hRr:=HRR.out.called hS.out
   have hAr:=HAA.out.called hS.out
   obtain⟨hbl,hcr⟩:=hRr
   have cb':=hcr j hlt
   have hrow:unit≤j→∃ g,(some ⟨gr,0,none⟩:Option Addr)=some ⟨g,0,none⟩∧j - unit < n∧g < wr.drew.heap.size∧wr.drew.cell? ⟨g,j - unit,none⟩=some (.int .u8 (r (j - unit))):=fun _=>⟨_,rfl,by omega,hbl,hcr (j - unit) (by omega)⟩
   clear hcr
   have hbes:=beside_any (some ⟨gr,0,none⟩) n cr r u ga n ca unit j wr.drew hu hlt hn HR8.out HU8.out hAr.drew hrow
   obtain⟨X,hX⟩:∃ X,X=r j:=⟨_,rfl⟩
   have hX0:0≤X∧X < 256:=by rw [hX]; exact HR8.out j
   rw[← hX] at cb'
   clear hrow hAr
   obtain⟨L,hL⟩:∃ L,L=aheadB r unit j:=⟨_,rfl⟩
   obtain⟨U,hU⟩:∃ U,U=u j:=⟨_,rfl⟩
   obtain⟨C,hC⟩:∃ C,C=aheadB u unit j:=⟨_,rfl⟩
   rw[← hL,← hU,← hC] at hbes
   have hL0:0≤L∧L < 256:=by rw [hL]; exact ahead_byte HR8.out _ _
   have hU0:0≤U∧U < 256:=by rw [hU]; exact HU8.out j
   have hC0:0≤C∧C < 256:=by rw [hC]; exact ahead_byte HU8.out _ _
   have hkd:=fun W=>ahead_any L U C W
   have HY:Hid (told 1 L U C=says 1 r u unit j):=by
    show _=_
    unfold says
    rw[hL,hU,hC]
   obtain⟨Y,hY⟩:∃ Y,Y=told 1 L U C:=⟨_,rfl⟩
   have hY0:0≤Y∧Y < 256:=by rw [hY]; exact told_byte 1 hL0 hU0 hC0
   rw[← hY] at hkd HY
   obtain⟨Z,hZ⟩:∃ Z,Z=(X+256 - Y) % 256:=⟨_,rfl⟩
   have hZ0:0≤Z∧Z < 256:=by omega
   have u8w:IntKind.u8.wrap (X - Y)=Z:=by show (X - Y) % 256=Z; omega
   have HN:Hid (Z=filtB 1 r u unit j):=by
    show Z=_
    unfold filtB
    rw[← HY.out,← hX,hZ]
   have hwr:=wsum_range (r:=filtB 1 r u unit) (fun i=>filtB_byte _ _ _ _ _) j
   have HNW:Hid (wsum (filtB 1 r u unit) (j+1)=wsum (filtB 1 r u unit) j+wgt Z):=by
    show wsum (filtB 1 r u unit) j+wgt (filtB 1 r u unit j)=_
    rw[← HN.out]
   have hzw:=wgt_range Z hZ0
   have hbw:=fun W=>byteWeight_any Z W hZ0
   generalize wsum (filtB 1 r u unit) j=V at *
   generalize wgt Z=T at *
   have wvt:IntKind.i64.wrap (V+T)=V+T:=by rw [IntKind.wrap_i64]; omega
   have u8y:IntKind.u8.wrap Y=Y:=by show Y % 256=Y; omega
   have dl:decide ((j:Int) < (n:Int))=true:=decide_eq_true (by omega)
   have x0:(0:Int)≤(j:Int):=by omega
   have x1:(j:Int) < (n:Int):=by omega
   clear hX hY hZ hL hU hC
   go_wp2_with fail
   refine wp_region_held (S:=fun u=>u.cell? ⟨gr,j,none⟩=some (.int .u8 X)∧gr < u.heap.size) (by kernel_rfl) ?_
   show wpAnyH _ _ _ _ _ _ _ _ wr.drew
   have HS:wr.drew.cell? ⟨gr,j,none⟩=some (.int .u8 X)∧gr < wr.drew.heap.size:=⟨cb',hbl⟩
   refine wpAnyH_take (i:=0) (v:=.int .i64 V) rfl (by kernel_rfl) (by kernel_rfl) (by kernel_rfl) (fun _ _ _ h=>h) (Or.inl ⟨by rfl,?_⟩) HS ?_
   ·intro w' hS
    obtain⟨s0,s1⟩:=hS
    go_simp
   simp only [Act.put,List.getElem_toArray,List.getElem_cons_zero,List.setIfInBounds_toArray,List.set_cons_zero,List.set_cons_succ]
   refine wpAnyH_take (i:=1) (v:=.slice (some ⟨gr,0,none⟩) n cr) rfl (by kernel_rfl) (by kernel_rfl) (by kernel_rfl) (fun _ _ _ h=>h) (Or.inl ⟨by rfl,?_⟩) HS ?_
   ·intro w' hS
    obtain⟨s0,s1⟩:=hS
    go_simp
   simp only [Act.put,List.getElem_toArray,List.getElem_cons_zero,List.getElem_cons_succ,List.setIfInBounds_toArray,List.set_cons_zero,List.set_cons_succ]
   refine wpAnyH_take (i:=2) (v:=.int .i64 (j:Int)) rfl (by kernel_rfl) (by kernel_rfl) (by kernel_rfl) (fun _ _ _ h=>h) (Or.inl ⟨by rfl,?_⟩) HS ?_
   ·intro w' hS
    obtain⟨s0,s1⟩:=hS
    go_simp
   simp only [Act.put,List.getElem_toArray,List.getElem_cons_zero,List.getElem_cons_succ,List.setIfInBounds_toArray,List.set_cons_zero,List.set_cons_succ]
   refine wpAnyH_take (i:=3) (v:=.pointer (some ⟨gr,j,none⟩)) rfl (by kernel_rfl) (by kernel_rfl) (by kernel_rfl) (fun _ _ _ h=>h) (Or.inl ⟨by rfl,?_⟩) HS ?_
   ·intro w' hS
    obtain⟨s0,s1⟩:=hS
    go_simp
   simp only [Act.put,List.getElem_toArray,List.getElem_cons_zero,List.getElem_cons_succ,List.setIfInBounds_toArray,List.set_cons_zero,List.set_cons_succ]
   refine wpAnyH_take (i:=4) (v:=.int .u8 X) rfl (by kernel_rfl) (by kernel_rfl) (by kernel_rfl) (fun _ _ _ h=>h) (Or.inl ⟨by rfl,?_⟩) HS ?_
   ·intro w' hS
    obtain⟨s0,s1⟩:=hS
    go_simp
   simp only [Act.put,List.getElem_toArray,List.getElem_cons_zero,List.getElem_cons_succ,List.setIfInBounds_toArray,List.set_cons_zero,List.set_cons_succ]
   refine wpAnyH_take (i:=5) (v:=fnV 109) rfl (by kernel_rfl) (by kernel_rfl) (by kernel_rfl) (fun _ _ _ h=>h) (Or.inl ⟨by rfl,?_⟩) HS ?_
   ·intro w' hS
    obtain⟨s0,s1⟩:=hS
    go_simp
   simp only [Act.put,List.getElem_toArray,List.getElem_cons_zero,List.getElem_cons_succ,List.setIfInBounds_toArray,List.set_cons_zero,List.set_cons_succ]
   refine wpAnyH_take (i:=6) (v:=.slice (some ⟨gr,0,none⟩) n cr) rfl (by kernel_rfl) (by kernel_rfl) (by kernel_rfl) (fun _ _ _ h=>h) (Or.inl ⟨by rfl,?_⟩) HS ?_
   ·intro w' hS
    obtain⟨s0,s1⟩:=hS
    go_simp
   simp only [Act.put,List.getElem_toArray,List.getElem_cons_zero,List.getElem_cons_succ,List.setIfInBounds_toArray,List.set_cons_zero,List.set_cons_succ]
   refine wpAnyH_take (i:=7) (v:=.slice (some ⟨ga,0,none⟩) n ca) rfl (by kernel_rfl) (by kernel_rfl) (by kernel_rfl) (fun _ _ _ h=>h) (Or.inl ⟨by rfl,?_⟩) HS ?_
   ·intro w' hS
    obtain⟨s0,s1⟩:=hS
    go_simp
   simp only [Act.put,List.getElem_toArray,List.getElem_cons_zero,List.getElem_cons_succ,List.setIfInBounds_toArray,List.set_cons_zero,List.set_cons_succ]
   refine wpAnyH_take (i:=8) (v:=.int .i64 (j:Int)) rfl (by kernel_rfl) (by kernel_rfl) (by kernel_rfl) (fun _ _ _ h=>h) (Or.inl ⟨by rfl,?_⟩) HS ?_
   ·intro w' hS
    obtain⟨s0,s1⟩:=hS
    go_simp
   simp only [Act.put,List.getElem_toArray,List.getElem_cons_zero,List.getElem_cons_succ,List.setIfInBounds_toArray,List.set_cons_zero,List.set_cons_succ]
   refine wpAnyH_take (i:=9) (v:=.int .i64 (unit:Int)) rfl (by kernel_rfl) (by kernel_rfl) (by kernel_rfl) (fun _ _ _ h=>h) (Or.inl ⟨by rfl,?_⟩) HS ?_
   ·intro w' hS
    obtain⟨s0,s1⟩:=hS
    go_simp
   simp only [Act.put,List.getElem_toArray,List.getElem_cons_zero,List.getElem_cons_succ,List.setIfInBounds_toArray,List.set_cons_zero,List.set_cons_succ]
   refine wpAnyH_ready (rs:=[10]) (by kernel_rfl) (by simp) ?_
   refine AllReadyH.cons rfl (fun K hK=>?_) AllReadyH.nil
   refine if_wanted (wanted_none rfl) ?_
   simp only [List.getElem_toArray,List.getElem_cons_zero,List.getElem_cons_succ]
   go_simp
   refine hbes.mono ?_
   rintro e w4 ⟨rfl,hB4⟩
   have HB4:Hid (Below wr.heap.size wr w4):=⟨hB4.1,hB4.2,hB4.3,hB4.4,hB4.5⟩
   have cb4:w4.cell? ⟨gr,j,none⟩=some (.int .u8 X):=((bcell HB4.out).1 _ _ hbl).trans cb'
   have hb4:gr < w4.heap.size:=Nat.lt_of_lt_of_le hbl HB4.out.size
   clear hB4 hbes HS
   refine hK.out _ _ ⟨cb4,hb4⟩ (fun HS=>?_)
   clear hK K
   refine wpAnyH_ready (rs:=[11]) (by kernel_rfl) (by simp) ?_
   refine AllReadyH.cons rfl (fun K hK=>?_) AllReadyH.nil
   refine if_wanted (wanted_none rfl) ?_
   simp only [List.getElem_toArray,List.getElem_cons_zero,List.getElem_cons_succ]
   go_simp
   refine (hkd _).mono ?_
   rintro e w5 ⟨rfl,hB5⟩
   have HB5:Hid (Below wr.heap.size wr w5):=bnext HB4.out hB5
   have cb5:w5.cell? ⟨gr,j,none⟩=some (.int .u8 X):=((bcell HB5.out).1 _ _ hbl).trans cb'
   have hb5:gr < w5.heap.size:=Nat.lt_of_lt_of_le hbl HB5.out.size
   clear hB5 hkd HB4 HS cb4 hb4
   refine hK.out _ _ ⟨cb5,hb5⟩ (fun HS=>?_)
   clear hK K
   refine wpAnyH_take (i:=12) (v:=.int .u8 Y) rfl (by kernel_rfl) (by kernel_rfl) (by kernel_rfl) (fun _ _ _ h=>h) (Or.inl ⟨by rfl,?_⟩) HS ?_
   ·intro w' hS
    obtain⟨s0,s1⟩:=hS
    go_simp
   simp only [Act.put,List.getElem_toArray,List.getElem_cons_zero,List.getElem_cons_succ,List.setIfInBounds_toArray,List.set_cons_zero,List.set_cons_succ]
   refine wpAnyH_take (i:=13) (v:=.int .u8 Z) rfl (by kernel_rfl) (by kernel_rfl) (by kernel_rfl) (fun _ _ _ h=>h) (Or.inl ⟨by rfl,?_⟩) HS ?_
   ·intro w' hS
    obtain⟨s0,s1⟩:=hS
    go_simp
   simp only [Act.put,List.getElem_toArray,List.getElem_cons_zero,List.getElem_cons_succ,List.setIfInBounds_toArray,List.set_cons_zero,List.set_cons_succ]
   refine wpAnyH_ready (rs:=[14]) (by kernel_rfl) (by simp) ?_
   refine AllReadyH.cons rfl (fun K hK=>?_) AllReadyH.nil
   refine if_wanted (wanted_none rfl) ?_
   simp only [List.getElem_toArray,List.getElem_cons_zero,List.getElem_cons_succ]
   go_simp
   refine (hbw _).mono ?_
   rintro e w6 ⟨rfl,rfl⟩
   refine hK.out _ _ ⟨cb5,hb5⟩ (fun HS=>?_)
   clear hK K
   refine wpAnyH_take (i:=15) (v:=.int .i64 (V+T)) rfl (by kernel_rfl) (by kernel_rfl) (by kernel_rfl) (fun _ _ _ h=>h) (Or.inl ⟨by rfl,?_⟩) HS ?_
   ·intro w' hS
    obtain⟨s0,s1⟩:=hS
    go_simp
   simp only [Act.put,List.getElem_toArray,List.getElem_cons_zero,List.getElem_cons_succ,List.setIfInBounds_toArray,List.set_cons_zero,List.set_cons_succ]
   refine wpAnyH_take (i:=16) (v:=.int .i64 (V+T)) rfl (by kernel_rfl) (by kernel_rfl) (by kernel_rfl) (fun _ _ _ h=>h) (Or.inl ⟨by rfl,?_⟩) HS ?_
   ·intro w' hS
    obtain⟨s0,s1⟩:=hS
    go_simp
   simp only [Act.put,List.getElem_toArray,List.getElem_cons_zero,List.getElem_cons_succ,List.setIfInBounds_toArray,List.set_cons_zero,List.set_cons_succ]
   refine wpAnyH_done (by kernel_rfl) ?_ _
   go_wp2_with fail
   go_roundw
   case rel=>exact⟨j+1,by omega,by go_num,by rw [HNW.out],bnext hS.out HB5.out⟩
   case measure=>simp [intOf]; omega
  ·obtain rfl:j=n:=by omega
   have dl:decide ((j:Int) < (j:Int))=false:=decide_eq_false (by omega)
   go_wp2_with fail
   go_ret
   exact⟨rfl,hS.out⟩
set_option maxRecDepth 100000 in
set_option maxHeartbeats 3200000 in
theorem filtWeight_2 (r u:Nat→Int) (unit n gr cr ga ca:Nat) (w:World) (hu:1≤unit∧unit≤8) (hn:n≤200) (hr:∀ i,0≤r i∧r i < 256) (hub:∀ i,0≤u i∧u i < 256) (hR:BAt w gr n r) (hA:BAt w ga n u):
  Calls Tryd.prog 107 #[.int .i64 2,.slice (some ⟨gr,0,none⟩) n cr,.slice (some ⟨ga,0,none⟩) n ca,.int .i64 (unit:Int)] w fun e w'=>e=.returned (.int .i64 (wsum (filtB 2 r u unit) n))∧Below w.heap.size w w':=by
 have HR8:=hid_of hr
 have HU8:=hid_of hub
 have HRR:=hid_of hR
 clear hR
 have HAA:=hid_of hA
 clear hr hub hA
 go_enter Tryd.func107,Tryd.ntmps107
 go_wp2_with fail
 refine (kinds_any _).mono ?_
 rintro e w1 ⟨rfl,hm,hB1⟩
 have lk:(Instr.lookup 109 (.map (some w.heap.size)) (.int .i64 2) false).run Tryd.prog w1=.ok (fnV 110) w1:=kind_take hm 2 (by omega)
 have H0:=hid_of hB1
 clear hm hB1
 go_wp2_with fail
 go_loopw [10,17] (fun v i w'=>∃ j:Nat,j≤n∧i=.int .i64 (j:Int)∧v=.int .i64 (wsum (filtB 2 r u unit) j)∧Hid (Below w.heap.size w w')) (fun _ i _=>n - (intOf i).toNat)
 case atStart=>exact⟨0,Nat.zero_le _,rfl,rfl,H0⟩
 case round=>
  clear H0 lk
  obtain⟨j,hj,rfl,rfl,hS⟩:=hrel
  by_cases hlt:j < n
  ·have hRr:=HRR.out.called hS.out
   have hAr:=HAA.out.called hS.out
   obtain⟨hbl,hcr⟩:=hRr
   have cb':=hcr j hlt
   have hrow:unit≤j→∃ g,(some ⟨gr,0,none⟩:Option Addr)=some ⟨g,0,none⟩∧j - unit < n∧g < wr.drew.heap.size∧wr.drew.cell? ⟨g,j - unit,none⟩=some (.int .u8 (r (j - unit))):=fun _=>⟨_,rfl,by omega,hbl,hcr (j - unit) (by omega)⟩
   clear hcr
   have hbes:=beside_any (some ⟨gr,0,none⟩) n cr r u ga n ca unit j wr.drew hu hlt hn HR8.out HU8.out hAr.drew hrow
   obtain⟨X,hX⟩:∃ X,X=r j:=⟨_,rfl⟩
   have hX0:0≤X∧X < 256:=by rw [hX]; exact HR8.out j
   rw[← hX] at cb'
   clear hrow hAr
   obtain⟨L,hL⟩:∃ L,L=aheadB r unit j:=⟨_,rfl⟩
   obtain⟨U,hU⟩:∃ U,U=u j:=⟨_,rfl⟩
   obtain⟨C,hC⟩:∃ C,C=aheadB u unit j:=⟨_,rfl⟩
   rw[← hL,← hU,← hC] at hbes
   have hL0:0≤L∧L < 256:=by rw [hL]; exact ahead_byte HR8.out _ _
   have hU0:0≤U∧U < 256:=by rw [hU]; exact HU8.out j
   have hC0:0≤C∧C < 256:=by rw [hC]; exact ahead_byte HU8.out _ _
   have hkd:=fun W=>above_any L U C W
   have HY:Hid (told 2 L U C=says 2 r u unit j):=by
    show _=_
    unfold says
    rw[hL,hU,hC]
   obtain⟨Y,hY⟩:∃ Y,Y=told 2 L U C:=⟨_,rfl⟩
   have hY0:0≤Y∧Y < 256:=by rw [hY]; exact told_byte 2 hL0 hU0 hC0
   rw[← hY] at hkd HY
   obtain⟨Z,hZ⟩:∃ Z,Z=(X+256 - Y) % 256:=⟨_,rfl⟩
   have hZ0:0≤Z∧Z < 256:=by omega
   have u8w:IntKind.u8.wrap (X - Y)=Z:=by show (X - Y) % 256=Z; omega
   have HN:Hid (Z=filtB 2 r u unit j):=by
    show Z=_
    unfold filtB
    rw[← HY.out,← hX,hZ]
   have hwr:=wsum_range (r:=filtB 2 r u unit) (fun i=>filtB_byte _ _ _ _ _) j
   have HNW:Hid (wsum (filtB 2 r u unit) (j+1)=wsum (filtB 2 r u unit) j+wgt Z):=by
    show wsum (filtB 2 r u unit) j+wgt (filtB 2 r u unit j)=_
    rw[← HN.out]
   have hzw:=wgt_range Z hZ0
   have hbw:=fun W=>byteWeight_any Z W hZ0
   generalize wsum (filtB 2 r u unit) j=V at *
   generalize wgt Z=T at *
   have wvt:IntKind.i64.wrap (V+T)=V+T:=by rw [IntKind.wrap_i64]; omega
   have u8y:IntKind.u8.wrap Y=Y:=by show Y % 256=Y; omega
   have dl:decide ((j:Int) < (n:Int))=true:=decide_eq_true (by omega)
   have x0:(0:Int)≤(j:Int):=by omega
   have x1:(j:Int) < (n:Int):=by omega
   clear hX hY hZ hL hU hC
   go_wp2_with fail
   refine wp_region_held (S:=fun u=>u.cell? ⟨gr,j,none⟩=some (.int .u8 X)∧gr < u.heap.size) (by kernel_rfl) ?_
   show wpAnyH _ _ _ _ _ _ _ _ wr.drew
   have HS:wr.drew.cell? ⟨gr,j,none⟩=some (.int .u8 X)∧gr < wr.drew.heap.size:=⟨cb',hbl⟩
   refine wpAnyH_take (i:=0) (v:=.int .i64 V) rfl (by kernel_rfl) (by kernel_rfl) (by kernel_rfl) (fun _ _ _ h=>h) (Or.inl ⟨by rfl,?_⟩) HS ?_
   ·intro w' hS
    obtain⟨s0,s1⟩:=hS
    go_simp
   simp only [Act.put,List.getElem_toArray,List.getElem_cons_zero,List.setIfInBounds_toArray,List.set_cons_zero,List.set_cons_succ]
   refine wpAnyH_take (i:=1) (v:=.slice (some ⟨gr,0,none⟩) n cr) rfl (by kernel_rfl) (by kernel_rfl) (by kernel_rfl) (fun _ _ _ h=>h) (Or.inl ⟨by rfl,?_⟩) HS ?_
   ·intro w' hS
    obtain⟨s0,s1⟩:=hS
    go_simp
   simp only [Act.put,List.getElem_toArray,List.getElem_cons_zero,List.getElem_cons_succ,List.setIfInBounds_toArray,List.set_cons_zero,List.set_cons_succ]
   refine wpAnyH_take (i:=2) (v:=.int .i64 (j:Int)) rfl (by kernel_rfl) (by kernel_rfl) (by kernel_rfl) (fun _ _ _ h=>h) (Or.inl ⟨by rfl,?_⟩) HS ?_
   ·intro w' hS
    obtain⟨s0,s1⟩:=hS
    go_simp
   simp only [Act.put,List.getElem_toArray,List.getElem_cons_zero,List.getElem_cons_succ,List.setIfInBounds_toArray,List.set_cons_zero,List.set_cons_succ]
   refine wpAnyH_take (i:=3) (v:=.pointer (some ⟨gr,j,none⟩)) rfl (by kernel_rfl) (by kernel_rfl) (by kernel_rfl) (fun _ _ _ h=>h) (Or.inl ⟨by rfl,?_⟩) HS ?_
   ·intro w' hS
    obtain⟨s0,s1⟩:=hS
    go_simp
   simp only [Act.put,List.getElem_toArray,List.getElem_cons_zero,List.getElem_cons_succ,List.setIfInBounds_toArray,List.set_cons_zero,List.set_cons_succ]
   refine wpAnyH_take (i:=4) (v:=.int .u8 X) rfl (by kernel_rfl) (by kernel_rfl) (by kernel_rfl) (fun _ _ _ h=>h) (Or.inl ⟨by rfl,?_⟩) HS ?_
   ·intro w' hS
    obtain⟨s0,s1⟩:=hS
    go_simp
   simp only [Act.put,List.getElem_toArray,List.getElem_cons_zero,List.getElem_cons_succ,List.setIfInBounds_toArray,List.set_cons_zero,List.set_cons_succ]
   refine wpAnyH_take (i:=5) (v:=fnV 110) rfl (by kernel_rfl) (by kernel_rfl) (by kernel_rfl) (fun _ _ _ h=>h) (Or.inl ⟨by rfl,?_⟩) HS ?_
   ·intro w' hS
    obtain⟨s0,s1⟩:=hS
    go_simp
   simp only [Act.put,List.getElem_toArray,List.getElem_cons_zero,List.getElem_cons_succ,List.setIfInBounds_toArray,List.set_cons_zero,List.set_cons_succ]
   refine wpAnyH_take (i:=6) (v:=.slice (some ⟨gr,0,none⟩) n cr) rfl (by kernel_rfl) (by kernel_rfl) (by kernel_rfl) (fun _ _ _ h=>h) (Or.inl ⟨by rfl,?_⟩) HS ?_
   ·intro w' hS
    obtain⟨s0,s1⟩:=hS
    go_simp
   simp only [Act.put,List.getElem_toArray,List.getElem_cons_zero,List.getElem_cons_succ,List.setIfInBounds_toArray,List.set_cons_zero,List.set_cons_succ]
   refine wpAnyH_take (i:=7) (v:=.slice (some ⟨ga,0,none⟩) n ca) rfl (by kernel_rfl) (by kernel_rfl) (by kernel_rfl) (fun _ _ _ h=>h) (Or.inl ⟨by rfl,?_⟩) HS ?_
   ·intro w' hS
    obtain⟨s0,s1⟩:=hS
    go_simp
   simp only [Act.put,List.getElem_toArray,List.getElem_cons_zero,List.getElem_cons_succ,List.setIfInBounds_toArray,List.set_cons_zero,List.set_cons_succ]
   refine wpAnyH_take (i:=8) (v:=.int .i64 (j:Int)) rfl (by kernel_rfl) (by kernel_rfl) (by kernel_rfl) (fun _ _ _ h=>h) (Or.inl ⟨by rfl,?_⟩) HS ?_
   ·intro w' hS
    obtain⟨s0,s1⟩:=hS
    go_simp
   simp only [Act.put,List.getElem_toArray,List.getElem_cons_zero,List.getElem_cons_succ,List.setIfInBounds_toArray,List.set_cons_zero,List.set_cons_succ]
   refine wpAnyH_take (i:=9) (v:=.int .i64 (unit:Int)) rfl (by kernel_rfl) (by kernel_rfl) (by kernel_rfl) (fun _ _ _ h=>h) (Or.inl ⟨by rfl,?_⟩) HS ?_
   ·intro w' hS
    obtain⟨s0,s1⟩:=hS
    go_simp
   simp only [Act.put,List.getElem_toArray,List.getElem_cons_zero,List.getElem_cons_succ,List.setIfInBounds_toArray,List.set_cons_zero,List.set_cons_succ]
   refine wpAnyH_ready (rs:=[10]) (by kernel_rfl) (by simp) ?_
   refine AllReadyH.cons rfl (fun K hK=>?_) AllReadyH.nil
   refine if_wanted (wanted_none rfl) ?_
   simp only [List.getElem_toArray,List.getElem_cons_zero,List.getElem_cons_succ]
   go_simp
   refine hbes.mono ?_
   rintro e w4 ⟨rfl,hB4⟩
   have HB4:Hid (Below wr.heap.size wr w4):=⟨hB4.1,hB4.2,hB4.3,hB4.4,hB4.5⟩
   have cb4:w4.cell? ⟨gr,j,none⟩=some (.int .u8 X):=((bcell HB4.out).1 _ _ hbl).trans cb'
   have hb4:gr < w4.heap.size:=Nat.lt_of_lt_of_le hbl HB4.out.size
   clear hB4 hbes HS
   refine hK.out _ _ ⟨cb4,hb4⟩ (fun HS=>?_)
   clear hK K
   refine wpAnyH_ready (rs:=[11]) (by kernel_rfl) (by simp) ?_
   refine AllReadyH.cons rfl (fun K hK=>?_) AllReadyH.nil
   refine if_wanted (wanted_none rfl) ?_
   simp only [List.getElem_toArray,List.getElem_cons_zero,List.getElem_cons_succ]
   go_simp
   refine (hkd _).mono ?_
   rintro e w5 ⟨rfl,hB5⟩
   have HB5:Hid (Below wr.heap.size wr w5):=bnext HB4.out hB5
   have cb5:w5.cell? ⟨gr,j,none⟩=some (.int .u8 X):=((bcell HB5.out).1 _ _ hbl).trans cb'
   have hb5:gr < w5.heap.size:=Nat.lt_of_lt_of_le hbl HB5.out.size
   clear hB5 hkd HB4 HS cb4 hb4
   refine hK.out _ _ ⟨cb5,hb5⟩ (fun HS=>?_)
   clear hK K
   refine wpAnyH_take (i:=12) (v:=.int .u8 Y) rfl (by kernel_rfl) (by kernel_rfl) (by kernel_rfl) (fun _ _ _ h=>h) (Or.inl ⟨by rfl,?_⟩) HS ?_
   ·intro w' hS
    obtain⟨s0,s1⟩:=hS
    go_simp
   simp only [Act.put,List.getElem_toArray,List.getElem_cons_zero,List.getElem_cons_succ,List.setIfInBounds_toArray,List.set_cons_zero,List.set_cons_succ]
   refine wpAnyH_take (i:=13) (v:=.int .u8 Z) rfl (by kernel_rfl) (by kernel_rfl) (by kernel_rfl) (fun _ _ _ h=>h) (Or.inl ⟨by rfl,?_⟩) HS ?_
   ·intro w' hS
    obtain⟨s0,s1⟩:=hS
    go_simp
   simp only [Act.put,List.getElem_toArray,List.getElem_cons_zero,List.getElem_cons_succ,List.setIfInBounds_toArray,List.set_cons_zero,List.set_cons_succ]
   refine wpAnyH_ready (rs:=[14]) (by kernel_rfl) (by simp) ?_
   refine AllReadyH.cons rfl (fun K hK=>?_) AllReadyH.nil
   refine if_wanted (wanted_none rfl) ?_
   simp only [List.getElem_toArray,List.getElem_cons_zero,List.getElem_cons_succ]
   go_simp
   refine (hbw _).mono ?_
   rintro e w6 ⟨rfl,rfl⟩
   refine hK.out _ _ ⟨cb5,hb5⟩ (fun HS=>?_)
   clear hK K
   refine wpAnyH_take (i:=15) (v:=.int .i64 (V+T)) rfl (by kernel_rfl) (by kernel_rfl) (by kernel_rfl) (fun _ _ _ h=>h) (Or.inl ⟨by rfl,?_⟩) HS ?_
   ·intro w' hS
    obtain⟨s0,s1⟩:=hS
    go_simp
   simp only [Act.put,List.getElem_toArray,List.getElem_cons_zero,List.getElem_cons_succ,List.setIfInBounds_toArray,List.set_cons_zero,List.set_cons_succ]
   refine wpAnyH_take (i:=16) (v:=.int .i64 (V+T)) rfl (by kernel_rfl) (by kernel_rfl) (by kernel_rfl) (fun _ _ _ h=>h) (Or.inl ⟨by rfl,?_⟩) HS ?_
   ·intro w' hS
    obtain⟨s0,s1⟩:=hS
    go_simp
   simp only [Act.put,List.getElem_toArray,List.getElem_cons_zero,List.getElem_cons_succ,List.setIfInBounds_toArray,List.set_cons_zero,List.set_cons_succ]
   refine wpAnyH_done (by kernel_rfl) ?_ _
   go_wp2_with fail
   go_roundw
   case rel=>exact⟨j+1,by omega,by go_num,by rw [HNW.out],bnext hS.out HB5.out⟩
   case measure=>simp [intOf]; omega
  ·obtain rfl:j=n:=by omega
   have dl:decide ((j:Int) < (j:Int))=false:=decide_eq_false (by omega)
   go_wp2_with fail
   go_ret
   exact⟨rfl,hS.out⟩
set_option maxRecDepth 100000 in
set_option maxHeartbeats 3200000 in
theorem filtWeight_3 (r u:Nat→Int) (unit n gr cr ga ca:Nat) (w:World) (hu:1≤unit∧unit≤8) (hn:n≤200) (hr:∀ i,0≤r i∧r i < 256) (hub:∀ i,0≤u i∧u i < 256) (hR:BAt w gr n r) (hA:BAt w ga n u):
  Calls Tryd.prog 107 #[.int .i64 3,.slice (some ⟨gr,0,none⟩) n cr,.slice (some ⟨ga,0,none⟩) n ca,.int .i64 (unit:Int)] w fun e w'=>e=.returned (.int .i64 (wsum (filtB 3 r u unit) n))∧Below w.heap.size w w':=by
 have HR8:=hid_of hr
 have HU8:=hid_of hub
 have HRR:=hid_of hR
 clear hR
 have HAA:=hid_of hA
 clear hr hub hA
 go_enter Tryd.func107,Tryd.ntmps107
 go_wp2_with fail
 refine (kinds_any _).mono ?_
 rintro e w1 ⟨rfl,hm,hB1⟩
 have lk:(Instr.lookup 109 (.map (some w.heap.size)) (.int .i64 3) false).run Tryd.prog w1=.ok (fnV 111) w1:=kind_take hm 3 (by omega)
 have H0:=hid_of hB1
 clear hm hB1
 go_wp2_with fail
 go_loopw [10,17] (fun v i w'=>∃ j:Nat,j≤n∧i=.int .i64 (j:Int)∧v=.int .i64 (wsum (filtB 3 r u unit) j)∧Hid (Below w.heap.size w w')) (fun _ i _=>n - (intOf i).toNat)
 case atStart=>exact⟨0,Nat.zero_le _,rfl,rfl,H0⟩
 case round=>
  clear H0 lk
  obtain⟨j,hj,rfl,rfl,hS⟩:=hrel
  by_cases hlt:j < n
  ·have hRr:=HRR.out.called hS.out
   have hAr:=HAA.out.called hS.out
   obtain⟨hbl,hcr⟩:=hRr
   have cb':=hcr j hlt
   have hrow:unit≤j→∃ g,(some ⟨gr,0,none⟩:Option Addr)=some ⟨g,0,none⟩∧j - unit < n∧g < wr.drew.heap.size∧wr.drew.cell? ⟨g,j - unit,none⟩=some (.int .u8 (r (j - unit))):=fun _=>⟨_,rfl,by omega,hbl,hcr (j - unit) (by omega)⟩
   clear hcr
   have hbes:=beside_any (some ⟨gr,0,none⟩) n cr r u ga n ca unit j wr.drew hu hlt hn HR8.out HU8.out hAr.drew hrow
   obtain⟨X,hX⟩:∃ X,X=r j:=⟨_,rfl⟩
   have hX0:0≤X∧X < 256:=by rw [hX]; exact HR8.out j
   rw[← hX] at cb'
   clear hrow hAr
   obtain⟨L,hL⟩:∃ L,L=aheadB r unit j:=⟨_,rfl⟩
   obtain⟨U,hU⟩:∃ U,U=u j:=⟨_,rfl⟩
   obtain⟨C,hC⟩:∃ C,C=aheadB u unit j:=⟨_,rfl⟩
   rw[← hL,← hU,← hC] at hbes
   have hL0:0≤L∧L < 256:=by rw [hL]; exact ahead_byte HR8.out _ _
   have hU0:0≤U∧U < 256:=by rw [hU]; exact HU8.out j
   have hC0:0≤C∧C < 256:=by rw [hC]; exact ahead_byte HU8.out _ _
   have hkd:=fun W=>middle_any L U C W hL0 hU0
   have HY:Hid (told 3 L U C=says 3 r u unit j):=by
    show _=_
    unfold says
    rw[hL,hU,hC]
   obtain⟨Y,hY⟩:∃ Y,Y=told 3 L U C:=⟨_,rfl⟩
   have hY0:0≤Y∧Y < 256:=by rw [hY]; exact told_byte 3 hL0 hU0 hC0
   rw[← hY] at hkd HY
   obtain⟨Z,hZ⟩:∃ Z,Z=(X+256 - Y) % 256:=⟨_,rfl⟩
   have hZ0:0≤Z∧Z < 256:=by omega
   have u8w:IntKind.u8.wrap (X - Y)=Z:=by show (X - Y) % 256=Z; omega
   have HN:Hid (Z=filtB 3 r u unit j):=by
    show Z=_
    unfold filtB
    rw[← HY.out,← hX,hZ]
   have hwr:=wsum_range (r:=filtB 3 r u unit) (fun i=>filtB_byte _ _ _ _ _) j
   have HNW:Hid (wsum (filtB 3 r u unit) (j+1)=wsum (filtB 3 r u unit) j+wgt Z):=by
    show wsum (filtB 3 r u unit) j+wgt (filtB 3 r u unit j)=_
    rw[← HN.out]
   have hzw:=wgt_range Z hZ0
   have hbw:=fun W=>byteWeight_any Z W hZ0
   generalize wsum (filtB 3 r u unit) j=V at *
   generalize wgt Z=T at *
   have wvt:IntKind.i64.wrap (V+T)=V+T:=by rw [IntKind.wrap_i64]; omega
   have u8y:IntKind.u8.wrap Y=Y:=by show Y % 256=Y; omega
   have dl:decide ((j:Int) < (n:Int))=true:=decide_eq_true (by omega)
   have x0:(0:Int)≤(j:Int):=by omega
   have x1:(j:Int) < (n:Int):=by omega
   clear hX hY hZ hL hU hC
   go_wp2_with fail
   refine wp_region_held (S:=fun u=>u.cell? ⟨gr,j,none⟩=some (.int .u8 X)∧gr < u.heap.size) (by kernel_rfl) ?_
   show wpAnyH _ _ _ _ _ _ _ _ wr.drew
   have HS:wr.drew.cell? ⟨gr,j,none⟩=some (.int .u8 X)∧gr < wr.drew.heap.size:=⟨cb',hbl⟩
   refine wpAnyH_take (i:=0) (v:=.int .i64 V) rfl (by kernel_rfl) (by kernel_rfl) (by kernel_rfl) (fun _ _ _ h=>h) (Or.inl ⟨by rfl,?_⟩) HS ?_
   ·intro w' hS
    obtain⟨s0,s1⟩:=hS
    go_simp
   simp only [Act.put,List.getElem_toArray,List.getElem_cons_zero,List.setIfInBounds_toArray,List.set_cons_zero,List.set_cons_succ]
   refine wpAnyH_take (i:=1) (v:=.slice (some ⟨gr,0,none⟩) n cr) rfl (by kernel_rfl) (by kernel_rfl) (by kernel_rfl) (fun _ _ _ h=>h) (Or.inl ⟨by rfl,?_⟩) HS ?_
   ·intro w' hS
    obtain⟨s0,s1⟩:=hS
    go_simp
   simp only [Act.put,List.getElem_toArray,List.getElem_cons_zero,List.getElem_cons_succ,List.setIfInBounds_toArray,List.set_cons_zero,List.set_cons_succ]
   refine wpAnyH_take (i:=2) (v:=.int .i64 (j:Int)) rfl (by kernel_rfl) (by kernel_rfl) (by kernel_rfl) (fun _ _ _ h=>h) (Or.inl ⟨by rfl,?_⟩) HS ?_
   ·intro w' hS
    obtain⟨s0,s1⟩:=hS
    go_simp
   simp only [Act.put,List.getElem_toArray,List.getElem_cons_zero,List.getElem_cons_succ,List.setIfInBounds_toArray,List.set_cons_zero,List.set_cons_succ]
   refine wpAnyH_take (i:=3) (v:=.pointer (some ⟨gr,j,none⟩)) rfl (by kernel_rfl) (by kernel_rfl) (by kernel_rfl) (fun _ _ _ h=>h) (Or.inl ⟨by rfl,?_⟩) HS ?_
   ·intro w' hS
    obtain⟨s0,s1⟩:=hS
    go_simp
   simp only [Act.put,List.getElem_toArray,List.getElem_cons_zero,List.getElem_cons_succ,List.setIfInBounds_toArray,List.set_cons_zero,List.set_cons_succ]
   refine wpAnyH_take (i:=4) (v:=.int .u8 X) rfl (by kernel_rfl) (by kernel_rfl) (by kernel_rfl) (fun _ _ _ h=>h) (Or.inl ⟨by rfl,?_⟩) HS ?_
   ·intro w' hS
    obtain⟨s0,s1⟩:=hS
    go_simp
   simp only [Act.put,List.getElem_toArray,List.getElem_cons_zero,List.getElem_cons_succ,List.setIfInBounds_toArray,List.set_cons_zero,List.set_cons_succ]
   refine wpAnyH_take (i:=5) (v:=fnV 111) rfl (by kernel_rfl) (by kernel_rfl) (by kernel_rfl) (fun _ _ _ h=>h) (Or.inl ⟨by rfl,?_⟩) HS ?_
   ·intro w' hS
    obtain⟨s0,s1⟩:=hS
    go_simp
   simp only [Act.put,List.getElem_toArray,List.getElem_cons_zero,List.getElem_cons_succ,List.setIfInBounds_toArray,List.set_cons_zero,List.set_cons_succ]
   refine wpAnyH_take (i:=6) (v:=.slice (some ⟨gr,0,none⟩) n cr) rfl (by kernel_rfl) (by kernel_rfl) (by kernel_rfl) (fun _ _ _ h=>h) (Or.inl ⟨by rfl,?_⟩) HS ?_
   ·intro w' hS
    obtain⟨s0,s1⟩:=hS
    go_simp
   simp only [Act.put,List.getElem_toArray,List.getElem_cons_zero,List.getElem_cons_succ,List.setIfInBounds_toArray,List.set_cons_zero,List.set_cons_succ]
   refine wpAnyH_take (i:=7) (v:=.slice (some ⟨ga,0,none⟩) n ca) rfl (by kernel_rfl) (by kernel_rfl) (by kernel_rfl) (fun _ _ _ h=>h) (Or.inl ⟨by rfl,?_⟩) HS ?_
   ·intro w' hS
    obtain⟨s0,s1⟩:=hS
    go_simp
   simp only [Act.put,List.getElem_toArray,List.getElem_cons_zero,List.getElem_cons_succ,List.setIfInBounds_toArray,List.set_cons_zero,List.set_cons_succ]
   refine wpAnyH_take (i:=8) (v:=.int .i64 (j:Int)) rfl (by kernel_rfl) (by kernel_rfl) (by kernel_rfl) (fun _ _ _ h=>h) (Or.inl ⟨by rfl,?_⟩) HS ?_
   ·intro w' hS
    obtain⟨s0,s1⟩:=hS
    go_simp
   simp only [Act.put,List.getElem_toArray,List.getElem_cons_zero,List.getElem_cons_succ,List.setIfInBounds_toArray,List.set_cons_zero,List.set_cons_succ]
   refine wpAnyH_take (i:=9) (v:=.int .i64 (unit:Int)) rfl (by kernel_rfl) (by kernel_rfl) (by kernel_rfl) (fun _ _ _ h=>h) (Or.inl ⟨by rfl,?_⟩) HS ?_
   ·intro w' hS
    obtain⟨s0,s1⟩:=hS
    go_simp
   simp only [Act.put,List.getElem_toArray,List.getElem_cons_zero,List.getElem_cons_succ,List.setIfInBounds_toArray,List.set_cons_zero,List.set_cons_succ]
   refine wpAnyH_ready (rs:=[10]) (by kernel_rfl) (by simp) ?_
   refine AllReadyH.cons rfl (fun K hK=>?_) AllReadyH.nil
   refine if_wanted (wanted_none rfl) ?_
   simp only [List.getElem_toArray,List.getElem_cons_zero,List.getElem_cons_succ]
   go_simp
   refine hbes.mono ?_
   rintro e w4 ⟨rfl,hB4⟩
   have HB4:Hid (Below wr.heap.size wr w4):=⟨hB4.1,hB4.2,hB4.3,hB4.4,hB4.5⟩
   have cb4:w4.cell? ⟨gr,j,none⟩=some (.int .u8 X):=((bcell HB4.out).1 _ _ hbl).trans cb'
   have hb4:gr < w4.heap.size:=Nat.lt_of_lt_of_le hbl HB4.out.size
   clear hB4 hbes HS
   refine hK.out _ _ ⟨cb4,hb4⟩ (fun HS=>?_)
   clear hK K
   refine wpAnyH_ready (rs:=[11]) (by kernel_rfl) (by simp) ?_
   refine AllReadyH.cons rfl (fun K hK=>?_) AllReadyH.nil
   refine if_wanted (wanted_none rfl) ?_
   simp only [List.getElem_toArray,List.getElem_cons_zero,List.getElem_cons_succ]
   go_simp
   refine (hkd _).mono ?_
   rintro e w5 ⟨rfl,hB5⟩
   have HB5:Hid (Below wr.heap.size wr w5):=bnext HB4.out hB5
   have cb5:w5.cell? ⟨gr,j,none⟩=some (.int .u8 X):=((bcell HB5.out).1 _ _ hbl).trans cb'
   have hb5:gr < w5.heap.size:=Nat.lt_of_lt_of_le hbl HB5.out.size
   clear hB5 hkd HB4 HS cb4 hb4
   refine hK.out _ _ ⟨cb5,hb5⟩ (fun HS=>?_)
   clear hK K
   refine wpAnyH_take (i:=12) (v:=.int .u8 Y) rfl (by kernel_rfl) (by kernel_rfl) (by kernel_rfl) (fun _ _ _ h=>h) (Or.inl ⟨by rfl,?_⟩) HS ?_
   ·intro w' hS
    obtain⟨s0,s1⟩:=hS
    go_simp
   simp only [Act.put,List.getElem_toArray,List.getElem_cons_zero,List.getElem_cons_succ,List.setIfInBounds_toArray,List.set_cons_zero,List.set_cons_succ]
   refine wpAnyH_take (i:=13) (v:=.int .u8 Z) rfl (by kernel_rfl) (by kernel_rfl) (by kernel_rfl) (fun _ _ _ h=>h) (Or.inl ⟨by rfl,?_⟩) HS ?_
   ·intro w' hS
    obtain⟨s0,s1⟩:=hS
    go_simp
   simp only [Act.put,List.getElem_toArray,List.getElem_cons_zero,List.getElem_cons_succ,List.setIfInBounds_toArray,List.set_cons_zero,List.set_cons_succ]
   refine wpAnyH_ready (rs:=[14]) (by kernel_rfl) (by simp) ?_
   refine AllReadyH.cons rfl (fun K hK=>?_) AllReadyH.nil
   refine if_wanted (wanted_none rfl) ?_
   simp only [List.getElem_toArray,List.getElem_cons_zero,List.getElem_cons_succ]
   go_simp
   refine (hbw _).mono ?_
   rintro e w6 ⟨rfl,rfl⟩
   refine hK.out _ _ ⟨cb5,hb5⟩ (fun HS=>?_)
   clear hK K
   refine wpAnyH_take (i:=15) (v:=.int .i64 (V+T)) rfl (by kernel_rfl) (by kernel_rfl) (by kernel_rfl) (fun _ _ _ h=>h) (Or.inl ⟨by rfl,?_⟩) HS ?_
   ·intro w' hS
    obtain⟨s0,s1⟩:=hS
    go_simp
   simp only [Act.put,List.getElem_toArray,List.getElem_cons_zero,List.getElem_cons_succ,List.setIfInBounds_toArray,List.set_cons_zero,List.set_cons_succ]
   refine wpAnyH_take (i:=16) (v:=.int .i64 (V+T)) rfl (by kernel_rfl) (by kernel_rfl) (by kernel_rfl) (fun _ _ _ h=>h) (Or.inl ⟨by rfl,?_⟩) HS ?_
   ·intro w' hS
    obtain⟨s0,s1⟩:=hS
    go_simp
   simp only [Act.put,List.getElem_toArray,List.getElem_cons_zero,List.getElem_cons_succ,List.setIfInBounds_toArray,List.set_cons_zero,List.set_cons_succ]
   refine wpAnyH_done (by kernel_rfl) ?_ _
   go_wp2_with fail
   go_roundw
   case rel=>exact⟨j+1,by omega,by go_num,by rw [HNW.out],bnext hS.out HB5.out⟩
   case measure=>simp [intOf]; omega
  ·obtain rfl:j=n:=by omega
   have dl:decide ((j:Int) < (j:Int))=false:=decide_eq_false (by omega)
   go_wp2_with fail
   go_ret
   exact⟨rfl,hS.out⟩
set_option maxRecDepth 100000 in
set_option maxHeartbeats 3200000 in
theorem filtWeight_4 (r u:Nat→Int) (unit n gr cr ga ca:Nat) (w:World) (hu:1≤unit∧unit≤8) (hn:n≤200) (hr:∀ i,0≤r i∧r i < 256) (hub:∀ i,0≤u i∧u i < 256) (hR:BAt w gr n r) (hA:BAt w ga n u):
  Calls Tryd.prog 107 #[.int .i64 4,.slice (some ⟨gr,0,none⟩) n cr,.slice (some ⟨ga,0,none⟩) n ca,.int .i64 (unit:Int)] w fun e w'=>e=.returned (.int .i64 (wsum (filtB 4 r u unit) n))∧Below w.heap.size w w':=by
 have HR8:=hid_of hr
 have HU8:=hid_of hub
 have HRR:=hid_of hR
 clear hR
 have HAA:=hid_of hA
 clear hr hub hA
 go_enter Tryd.func107,Tryd.ntmps107
 go_wp2_with fail
 refine (kinds_any _).mono ?_
 rintro e w1 ⟨rfl,hm,hB1⟩
 have lk:(Instr.lookup 109 (.map (some w.heap.size)) (.int .i64 4) false).run Tryd.prog w1=.ok (fnV 112) w1:=kind_take hm 4 (by omega)
 have H0:=hid_of hB1
 clear hm hB1
 go_wp2_with fail
 go_loopw [10,17] (fun v i w'=>∃ j:Nat,j≤n∧i=.int .i64 (j:Int)∧v=.int .i64 (wsum (filtB 4 r u unit) j)∧Hid (Below w.heap.size w w')) (fun _ i _=>n - (intOf i).toNat)
 case atStart=>exact⟨0,Nat.zero_le _,rfl,rfl,H0⟩
 case round=>
  clear H0 lk
  obtain⟨j,hj,rfl,rfl,hS⟩:=hrel
  by_cases hlt:j < n
  ·have hRr:=HRR.out.called hS.out
   have hAr:=HAA.out.called hS.out
   obtain⟨hbl,hcr⟩:=hRr
   have cb':=hcr j hlt
   have hrow:unit≤j→∃ g,(some ⟨gr,0,none⟩:Option Addr)=some ⟨g,0,none⟩∧j - unit < n∧g < wr.drew.heap.size∧wr.drew.cell? ⟨g,j - unit,none⟩=some (.int .u8 (r (j - unit))):=fun _=>⟨_,rfl,by omega,hbl,hcr (j - unit) (by omega)⟩
   clear hcr
   have hbes:=beside_any (some ⟨gr,0,none⟩) n cr r u ga n ca unit j wr.drew hu hlt hn HR8.out HU8.out hAr.drew hrow
   obtain⟨X,hX⟩:∃ X,X=r j:=⟨_,rfl⟩
   have hX0:0≤X∧X < 256:=by rw [hX]; exact HR8.out j
   rw[← hX] at cb'
   clear hrow hAr
   obtain⟨L,hL⟩:∃ L,L=aheadB r unit j:=⟨_,rfl⟩
   obtain⟨U,hU⟩:∃ U,U=u j:=⟨_,rfl⟩
   obtain⟨C,hC⟩:∃ C,C=aheadB u unit j:=⟨_,rfl⟩
   rw[← hL,← hU,← hC] at hbes
   have hL0:0≤L∧L < 256:=by rw [hL]; exact ahead_byte HR8.out _ _
   have hU0:0≤U∧U < 256:=by rw [hU]; exact HU8.out j
   have hC0:0≤C∧C < 256:=by rw [hC]; exact ahead_byte HU8.out _ _
   have hkd:=fun W=>nearest_any L U C W hL0 hU0 hC0
   have HY:Hid (told 4 L U C=says 4 r u unit j):=by
    show _=_
    unfold says
    rw[hL,hU,hC]
   obtain⟨Y,hY⟩:∃ Y,Y=told 4 L U C:=⟨_,rfl⟩
   have hY0:0≤Y∧Y < 256:=by rw [hY]; exact told_byte 4 hL0 hU0 hC0
   rw[← hY] at hkd HY
   obtain⟨Z,hZ⟩:∃ Z,Z=(X+256 - Y) % 256:=⟨_,rfl⟩
   have hZ0:0≤Z∧Z < 256:=by omega
   have u8w:IntKind.u8.wrap (X - Y)=Z:=by show (X - Y) % 256=Z; omega
   have HN:Hid (Z=filtB 4 r u unit j):=by
    show Z=_
    unfold filtB
    rw[← HY.out,← hX,hZ]
   have hwr:=wsum_range (r:=filtB 4 r u unit) (fun i=>filtB_byte _ _ _ _ _) j
   have HNW:Hid (wsum (filtB 4 r u unit) (j+1)=wsum (filtB 4 r u unit) j+wgt Z):=by
    show wsum (filtB 4 r u unit) j+wgt (filtB 4 r u unit j)=_
    rw[← HN.out]
   have hzw:=wgt_range Z hZ0
   have hbw:=fun W=>byteWeight_any Z W hZ0
   generalize wsum (filtB 4 r u unit) j=V at *
   generalize wgt Z=T at *
   have wvt:IntKind.i64.wrap (V+T)=V+T:=by rw [IntKind.wrap_i64]; omega
   have u8y:IntKind.u8.wrap Y=Y:=by show Y % 256=Y; omega
   have dl:decide ((j:Int) < (n:Int))=true:=decide_eq_true (by omega)
   have x0:(0:Int)≤(j:Int):=by omega
   have x1:(j:Int) < (n:Int):=by omega
   clear hX hY hZ hL hU hC
   go_wp2_with fail
   refine wp_region_held (S:=fun u=>u.cell? ⟨gr,j,none⟩=some (.int .u8 X)∧gr < u.heap.size) (by kernel_rfl) ?_
   show wpAnyH _ _ _ _ _ _ _ _ wr.drew
   have HS:wr.drew.cell? ⟨gr,j,none⟩=some (.int .u8 X)∧gr < wr.drew.heap.size:=⟨cb',hbl⟩
   refine wpAnyH_take (i:=0) (v:=.int .i64 V) rfl (by kernel_rfl) (by kernel_rfl) (by kernel_rfl) (fun _ _ _ h=>h) (Or.inl ⟨by rfl,?_⟩) HS ?_
   ·intro w' hS
    obtain⟨s0,s1⟩:=hS
    go_simp
   simp only [Act.put,List.getElem_toArray,List.getElem_cons_zero,List.setIfInBounds_toArray,List.set_cons_zero,List.set_cons_succ]
   refine wpAnyH_take (i:=1) (v:=.slice (some ⟨gr,0,none⟩) n cr) rfl (by kernel_rfl) (by kernel_rfl) (by kernel_rfl) (fun _ _ _ h=>h) (Or.inl ⟨by rfl,?_⟩) HS ?_
   ·intro w' hS
    obtain⟨s0,s1⟩:=hS
    go_simp
   simp only [Act.put,List.getElem_toArray,List.getElem_cons_zero,List.getElem_cons_succ,List.setIfInBounds_toArray,List.set_cons_zero,List.set_cons_succ]
   refine wpAnyH_take (i:=2) (v:=.int .i64 (j:Int)) rfl (by kernel_rfl) (by kernel_rfl) (by kernel_rfl) (fun _ _ _ h=>h) (Or.inl ⟨by rfl,?_⟩) HS ?_
   ·intro w' hS
    obtain⟨s0,s1⟩:=hS
    go_simp
   simp only [Act.put,List.getElem_toArray,List.getElem_cons_zero,List.getElem_cons_succ,List.setIfInBounds_toArray,List.set_cons_zero,List.set_cons_succ]
   refine wpAnyH_take (i:=3) (v:=.pointer (some ⟨gr,j,none⟩)) rfl (by kernel_rfl) (by kernel_rfl) (by kernel_rfl) (fun _ _ _ h=>h) (Or.inl ⟨by rfl,?_⟩) HS ?_
   ·intro w' hS
    obtain⟨s0,s1⟩:=hS
    go_simp
   simp only [Act.put,List.getElem_toArray,List.getElem_cons_zero,List.getElem_cons_succ,List.setIfInBounds_toArray,List.set_cons_zero,List.set_cons_succ]
   refine wpAnyH_take (i:=4) (v:=.int .u8 X) rfl (by kernel_rfl) (by kernel_rfl) (by kernel_rfl) (fun _ _ _ h=>h) (Or.inl ⟨by rfl,?_⟩) HS ?_
   ·intro w' hS
    obtain⟨s0,s1⟩:=hS
    go_simp
   simp only [Act.put,List.getElem_toArray,List.getElem_cons_zero,List.getElem_cons_succ,List.setIfInBounds_toArray,List.set_cons_zero,List.set_cons_succ]
   refine wpAnyH_take (i:=5) (v:=fnV 112) rfl (by kernel_rfl) (by kernel_rfl) (by kernel_rfl) (fun _ _ _ h=>h) (Or.inl ⟨by rfl,?_⟩) HS ?_
   ·intro w' hS
    obtain⟨s0,s1⟩:=hS
    go_simp
   simp only [Act.put,List.getElem_toArray,List.getElem_cons_zero,List.getElem_cons_succ,List.setIfInBounds_toArray,List.set_cons_zero,List.set_cons_succ]
   refine wpAnyH_take (i:=6) (v:=.slice (some ⟨gr,0,none⟩) n cr) rfl (by kernel_rfl) (by kernel_rfl) (by kernel_rfl) (fun _ _ _ h=>h) (Or.inl ⟨by rfl,?_⟩) HS ?_
   ·intro w' hS
    obtain⟨s0,s1⟩:=hS
    go_simp
   simp only [Act.put,List.getElem_toArray,List.getElem_cons_zero,List.getElem_cons_succ,List.setIfInBounds_toArray,List.set_cons_zero,List.set_cons_succ]
   refine wpAnyH_take (i:=7) (v:=.slice (some ⟨ga,0,none⟩) n ca) rfl (by kernel_rfl) (by kernel_rfl) (by kernel_rfl) (fun _ _ _ h=>h) (Or.inl ⟨by rfl,?_⟩) HS ?_
   ·intro w' hS
    obtain⟨s0,s1⟩:=hS
    go_simp
   simp only [Act.put,List.getElem_toArray,List.getElem_cons_zero,List.getElem_cons_succ,List.setIfInBounds_toArray,List.set_cons_zero,List.set_cons_succ]
   refine wpAnyH_take (i:=8) (v:=.int .i64 (j:Int)) rfl (by kernel_rfl) (by kernel_rfl) (by kernel_rfl) (fun _ _ _ h=>h) (Or.inl ⟨by rfl,?_⟩) HS ?_
   ·intro w' hS
    obtain⟨s0,s1⟩:=hS
    go_simp
   simp only [Act.put,List.getElem_toArray,List.getElem_cons_zero,List.getElem_cons_succ,List.setIfInBounds_toArray,List.set_cons_zero,List.set_cons_succ]
   refine wpAnyH_take (i:=9) (v:=.int .i64 (unit:Int)) rfl (by kernel_rfl) (by kernel_rfl) (by kernel_rfl) (fun _ _ _ h=>h) (Or.inl ⟨by rfl,?_⟩) HS ?_
   ·intro w' hS
    obtain⟨s0,s1⟩:=hS
    go_simp
   simp only [Act.put,List.getElem_toArray,List.getElem_cons_zero,List.getElem_cons_succ,List.setIfInBounds_toArray,List.set_cons_zero,List.set_cons_succ]
   refine wpAnyH_ready (rs:=[10]) (by kernel_rfl) (by simp) ?_
   refine AllReadyH.cons rfl (fun K hK=>?_) AllReadyH.nil
   refine if_wanted (wanted_none rfl) ?_
   simp only [List.getElem_toArray,List.getElem_cons_zero,List.getElem_cons_succ]
   go_simp
   refine hbes.mono ?_
   rintro e w4 ⟨rfl,hB4⟩
   have HB4:Hid (Below wr.heap.size wr w4):=⟨hB4.1,hB4.2,hB4.3,hB4.4,hB4.5⟩
   have cb4:w4.cell? ⟨gr,j,none⟩=some (.int .u8 X):=((bcell HB4.out).1 _ _ hbl).trans cb'
   have hb4:gr < w4.heap.size:=Nat.lt_of_lt_of_le hbl HB4.out.size
   clear hB4 hbes HS
   refine hK.out _ _ ⟨cb4,hb4⟩ (fun HS=>?_)
   clear hK K
   refine wpAnyH_ready (rs:=[11]) (by kernel_rfl) (by simp) ?_
   refine AllReadyH.cons rfl (fun K hK=>?_) AllReadyH.nil
   refine if_wanted (wanted_none rfl) ?_
   simp only [List.getElem_toArray,List.getElem_cons_zero,List.getElem_cons_succ]
   go_simp
   refine (hkd _).mono ?_
   rintro e w5 ⟨rfl,hB5⟩
   have HB5:Hid (Below wr.heap.size wr w5):=bnext HB4.out hB5
   have cb5:w5.cell? ⟨gr,j,none⟩=some (.int .u8 X):=((bcell HB5.out).1 _ _ hbl).trans cb'
   have hb5:gr < w5.heap.size:=Nat.lt_of_lt_of_le hbl HB5.out.size
   clear hB5 hkd HB4 HS cb4 hb4
   refine hK.out _ _ ⟨cb5,hb5⟩ (fun HS=>?_)
   clear hK K
   refine wpAnyH_take (i:=12) (v:=.int .u8 Y) rfl (by kernel_rfl) (by kernel_rfl) (by kernel_rfl) (fun _ _ _ h=>h) (Or.inl ⟨by rfl,?_⟩) HS ?_
   ·intro w' hS
    obtain⟨s0,s1⟩:=hS
    go_simp
   simp only [Act.put,List.getElem_toArray,List.getElem_cons_zero,List.getElem_cons_succ,List.setIfInBounds_toArray,List.set_cons_zero,List.set_cons_succ]
   refine wpAnyH_take (i:=13) (v:=.int .u8 Z) rfl (by kernel_rfl) (by kernel_rfl) (by kernel_rfl) (fun _ _ _ h=>h) (Or.inl ⟨by rfl,?_⟩) HS ?_
   ·intro w' hS
    obtain⟨s0,s1⟩:=hS
    go_simp
   simp only [Act.put,List.getElem_toArray,List.getElem_cons_zero,List.getElem_cons_succ,List.setIfInBounds_toArray,List.set_cons_zero,List.set_cons_succ]
   refine wpAnyH_ready (rs:=[14]) (by kernel_rfl) (by simp) ?_
   refine AllReadyH.cons rfl (fun K hK=>?_) AllReadyH.nil
   refine if_wanted (wanted_none rfl) ?_
   simp only [List.getElem_toArray,List.getElem_cons_zero,List.getElem_cons_succ]
   go_simp
   refine (hbw _).mono ?_
   rintro e w6 ⟨rfl,rfl⟩
   refine hK.out _ _ ⟨cb5,hb5⟩ (fun HS=>?_)
   clear hK K
   refine wpAnyH_take (i:=15) (v:=.int .i64 (V+T)) rfl (by kernel_rfl) (by kernel_rfl) (by kernel_rfl) (fun _ _ _ h=>h) (Or.inl ⟨by rfl,?_⟩) HS ?_
   ·intro w' hS
    obtain⟨s0,s1⟩:=hS
    go_simp
   simp only [Act.put,List.getElem_toArray,List.getElem_cons_zero,List.getElem_cons_succ,List.setIfInBounds_toArray,List.set_cons_zero,List.set_cons_succ]
   refine wpAnyH_take (i:=16) (v:=.int .i64 (V+T)) rfl (by kernel_rfl) (by kernel_rfl) (by kernel_rfl) (fun _ _ _ h=>h) (Or.inl ⟨by rfl,?_⟩) HS ?_
   ·intro w' hS
    obtain⟨s0,s1⟩:=hS
    go_simp
   simp only [Act.put,List.getElem_toArray,List.getElem_cons_zero,List.getElem_cons_succ,List.setIfInBounds_toArray,List.set_cons_zero,List.set_cons_succ]
   refine wpAnyH_done (by kernel_rfl) ?_ _
   go_wp2_with fail
   go_roundw
   case rel=>exact⟨j+1,by omega,by go_num,by rw [HNW.out],bnext hS.out HB5.out⟩
   case measure=>simp [intOf]; omega
  ·obtain rfl:j=n:=by omega
   have dl:decide ((j:Int) < (j:Int))=false:=decide_eq_false (by omega)
   go_wp2_with fail
   go_ret
   exact⟨rfl,hS.out⟩
theorem filtWeight_any (k:Int) (hk:0≤k∧k≤4) (r u:Nat→Int) (unit n gr cr ga ca:Nat) (w:World) (hu:1≤unit∧unit≤8) (hn:n≤200) (hr:∀ i,0≤r i∧r i < 256) (hub:∀ i,0≤u i∧u i < 256) (hR:BAt w gr n r) (hA:BAt w ga n u):
  Calls Tryd.prog 107 #[.int .i64 k,.slice (some ⟨gr,0,none⟩) n cr,.slice (some ⟨ga,0,none⟩) n ca,.int .i64 (unit:Int)] w fun e w'=>e=.returned (.int .i64 (wsum (filtB k r u unit) n))∧Below w.heap.size w w':=by
 obtain rfl | rfl | rfl | rfl | rfl:k=0∨k=1∨k=2∨k=3∨k=4:=by omega
 ·exact filtWeight_0 r u unit n gr cr ga ca w hu hn hr hub hR hA
 ·exact filtWeight_1 r u unit n gr cr ga ca w hu hn hr hub hR hA
 ·exact filtWeight_2 r u unit n gr cr ga ca w hu hn hr hub hR hA
 ·exact filtWeight_3 r u unit n gr cr ga ca w hu hn hr hub hR hA
 ·exact filtWeight_4 r u unit n gr cr ga ca w hu hn hr hub hR hA
set_option maxHeartbeats 1600000 in
theorem lightest_any (r u:Nat→Int) (unit n gr cr ga ca:Nat) (w:World) (hu:1≤unit∧unit≤8) (hn:n≤200) (hr:∀ i,0≤r i∧r i < 256) (hub:∀ i,0≤u i∧u i < 256) (hR:BAt w gr n r) (hA:BAt w ga n u):
  Calls Tryd.prog 101 #[.slice (some ⟨gr,0,none⟩) n cr,.slice (some ⟨ga,0,none⟩) n ca,.int .i64 (unit:Int)] w fun e w'=>e=.returned (.int .i64 ((least (fun k:Nat=>wsum (filtB (k:Int) r u unit) n) 4:Nat):Int))∧Below w.heap.size w w':=by
 obtain⟨f,hf⟩:∃ f:Nat→Int,f=fun k:Nat=>wsum (filtB (k:Int) r u unit) n:=⟨_,rfl⟩
 rw[← hf]
 have HK:Hid (∀ j,0≤f j∧f j≤25600):=fun j=>by
  have:=wsum_range (r:=filtB (j:Int) r u unit) (fun i=>filtB_byte _ _ _ _ _) n
  rw[hf]
  show 0≤wsum (filtB (j:Int) r u unit) n∧wsum (filtB (j:Int) r u unit) n≤25600
  omega
 have HF:Hid (∀ j:Nat,j≤4→∀ W,Below w.heap.size w W→Calls Tryd.prog 107 #[.int .i64 (j:Int),.slice (some ⟨gr,0,none⟩) n cr,.slice (some ⟨ga,0,none⟩) n ca,.int .i64 (unit:Int)] W fun e w'=>e=.returned (.int .i64 (f j))∧Below W.heap.size W w'):=fun j hj W hW=>by
  rw[hf]
  exact filtWeight_any (j:Int) (by omega) r u unit n gr cr ga ca W hu hn hr hub (hR.called hW) (hA.called hW)
 have hW0:=HF.out 0 (by omega) w (Below.refl _ _)
 rw[show ((0:Nat):Int)=0 from rfl] at hW0
 clear hr hub hR hA hf
 go_enter Tryd.func101,Tryd.ntmps101
 go_wp2_with fail
 refine hW0.mono ?_
 rintro e w2 ⟨rfl,hB2⟩
 have HB2:=hid_of hB2
 clear hB2 hW0
 go_wp2_with fail
 go_loopw [7,8,9] (fun b l i w'=>∃ j:Nat,j≤4∧i=.int .i64 ((j:Int)+1)∧b=.int .i64 ((least f j:Nat):Int)∧l=.int .i64 (f (least f j))∧Hid (Below w.heap.size w w')) (fun _ _ i _=>5 - (intOf i).toNat)
 case atStart=>exact⟨0,by omega,rfl,rfl,rfl,HB2⟩
 case round=>
  obtain⟨j,hj,rfl,rfl,rfl,hS⟩:=hrel
  by_cases hlt:j < 4
  ·have dl:decide ((j:Int)+1 < 5)=true:=decide_eq_true (by omega)
   have hf:=HF.out (j+1) (by omega) wr hS.out
   rw[show ((j+1:Nat):Int)=(j:Int)+1 by omega] at hf
   have k1:=HK.out (j+1)
   have k2:=HK.out (least f j)
   have HL:Hid (least f (j+1)=if f (j+1) < f (least f j) then j+1 else least f j):=rfl
   obtain⟨A,hA⟩:∃ A,A=f (j+1):=⟨_,rfl⟩
   obtain⟨B,hB⟩:∃ B,B=f (least f j):=⟨_,rfl⟩
   rw[← hA] at hf k1
   rw[← hB] at k2
   have HA:=hid_of hA
   have HBq:=hid_of hB
   rw[← hB]
   clear hA hB
   go_wp2_with fail
   refine hf.mono ?_
   rintro e w3 ⟨rfl,hB3⟩
   have HB3:=hid_of (bnext hS.out hB3)
   clear hB3
   by_cases hc:A < B
   ·have dc:decide (A < B)=true:=decide_eq_true hc
    have HL2:Hid (least f (j+1)=j+1):=by show _=_; rw [HL.out,← HA.out,← HBq.out,if_pos hc]
    go_wp2_with fail
    go_roundw
    case rel=>exact⟨j+1,by omega,by go_num,by rw [HL2.out]; go_num,by rw [HL2.out,HA.out],HB3⟩
    case measure=>simp [intOf]; omega
   ·have dc:decide (A < B)=false:=decide_eq_false hc
    have HL2:Hid (least f (j+1)=least f j):=by show _=_; rw [HL.out,← HA.out,← HBq.out,if_neg hc]
    go_wp2_with fail
    go_roundw
    case rel=>exact⟨j+1,by omega,by go_num,by rw [HL2.out],by rw [HL2.out,HBq.out],HB3⟩
    case measure=>simp [intOf]; omega
  ·obtain rfl:j=4:=by omega
   go_wp2_with fail
   go_ret
   exact⟨rfl,hS.out⟩
end Go.Proofs.YtcbbcadfolgioaaDoor
