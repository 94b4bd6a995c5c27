/-
  Texts of the proof, put together.
-/
import Derived.Test.YtcbbcadfolgioaaDoorPe19
namespace Go.Proofs.YtcbbcadfolgioaaDoor
open Go.RowKit Go.Joins TakeMath FiltMath
def FltI (w w':World) (base G N cb off n:Nat) (h0 F:Nat→Int) (j:Nat):Prop:=
 ∃ h,BFn w' base G N cb h∧(∀ i,i < j→h (off+i)=F i)∧(∀ i,i < off∨off+n≤i→h i=h0 i)∧But G w w'
theorem fltI_next {w wr w':World} {base G N cb off n:Nat} {h0 F:Nat→Int} {j:Nat} {x:Int} (hS:FltI w wr base G N cb off n h0 F j) (hj:j < n) (hN:off+n≤N) (hb:Below wr.heap.size wr w') (hx:x=F j):FltI w (w'.setCell ⟨G,off+j,none⟩ (.int .u8 x)) base G N cb off n h0 F (j+1):=by
 obtain⟨h,hO,hh,ho,hB⟩:=hS
 refine⟨upd h (off+j) x,(hO.called hb).set (off+j) (by omega) x,fun i hi=>?_,fun i hi=>?_,(hB.next hb).set (off+j) _⟩
 ·unfold upd
  by_cases e:i=j
  ·rw[if_pos (by omega),e,hx]
  ·rw[if_neg (by omega)]; exact hh i (by omega)
 ·unfold upd
  rw[if_neg (by omega)]
  exact ho i hi
set_option maxRecDepth 100000 in
set_option maxHeartbeats 3200000 in
theorem filterInto_0 (r u h0:Nat→Int) (unit n base G N cb off cs gr cr ga ca:Nat) (w:World) (hu:1≤unit∧unit≤8) (hn:n≤200) (hr:∀ i,0≤r i∧r i < 256) (hub:∀ i,0≤u i∧u i < 256) (hO:BFn w base G N cb h0) (hN:off+n≤N) (hR:BAt w gr n r) (hA:BAt w ga n u) (hne1:gr≠G) (hne2:ga≠G):
  Calls Tryd.prog 86 #[.slice (some ⟨G,off,none⟩) n cs,.int .i64 0,.slice (some ⟨gr,0,none⟩) n cr,.slice (some ⟨ga,0,none⟩) n ca,.int .i64 (unit:Int)] w fun e w'=>e=.returned (.tuple #[])∧FltI w w' base G N cb off n h0 (filtB 0 r u unit) n:=by
 have HR8:=hid_of hr
 have HU8:=hid_of hub
 have HRR:=hid_of hR
 clear hR
 have HAA:=hid_of hA
 clear hr hub hA
 go_enter Tryd.func86,Tryd.ntmps86
 go_wp2_with fail
 refine (kinds_any _).mono ?_
 rintro e w1 ⟨rfl,hm,hB1⟩
 have lk:(Instr.lookup 109 (.map (some w.heap.size)) (.int .i64 0) false).run Tryd.prog w1=.ok (fnV 108) w1:=kind_take hm 0 (by omega)
 have H0:Hid (FltI w w1 base G N cb off n h0 (filtB 0 r u unit) 0):=⟨h0,hO.called hB1,fun i hi=>absurd hi (Nat.not_lt_zero i),fun _ _=>rfl,But.of_below hB1⟩
 clear hm hB1 hO
 go_wp2_with fail
 go_loopw [17] (fun i w'=>∃ j:Nat,j≤n∧i=.int .i64 (j:Int)∧Hid (FltI w w' base G N cb off n h0 (filtB 0 r u unit) j)) (fun i _=>n - (intOf i).toNat)
 case atStart=>exact⟨0,Nat.zero_le _,rfl,H0⟩
 case round=>
  clear H0 lk
  obtain⟨j,hj,rfl,hS⟩:=hrel
  by_cases hlt:j < n
  ·obtain⟨h,hO,hh,ho,hBB⟩:=hS.out
   have hRr:=HRR.out.but hBB hne1
   have hAr:=HAA.out.but hBB hne2
   have hcell:=hO.cell (off+j) (by omega)
   have hfree:=hO.free (off+j) (by omega)
   have gl:G < wr.heap.size:=Own.lt hO
   have HC:Hid (∀ w',Below wr.heap.size wr w'→w'.cell? ⟨G,off+j,none⟩=some (.int .u8 (h (off+j)))∧w'.frozen? ⟨G,off+j,none⟩=false∧G < w'.heap.size):=fun w' hb=>⟨((bcell hb).1 _ _ gl).trans hcell,((bcell hb).2 _ _ gl).trans hfree,Nat.lt_of_lt_of_le gl hb.size⟩
   clear hh ho hBB hO hcell hfree
   obtain⟨hbl,hcr⟩:=hRr
   have cb':=hcr j hlt
   have hrow:unit≤j→∃ g,(some ⟨gr,0,none⟩:Option Addr)=some ⟨g,0,none⟩∧j - unit < n∧g < wr.drew.heap.size∧wr.drew.cell? ⟨g,j - unit,none⟩=some (.int .u8 (r (j - unit))):=fun _=>⟨_,rfl,by omega,hbl,hcr (j - unit) (by omega)⟩
   clear hcr
   have hbes:=beside_any (some ⟨gr,0,none⟩) n cr r u ga n ca unit j wr.drew hu hlt hn HR8.out HU8.out hAr.drew hrow
   obtain⟨X,hX⟩:∃ X,X=r j:=⟨_,rfl⟩
   have hX0:0≤X∧X < 256:=by rw [hX]; exact HR8.out j
   rw[← hX] at cb'
   clear hrow hAr
   obtain⟨L,hL⟩:∃ L,L=aheadB r unit j:=⟨_,rfl⟩
   obtain⟨U,hU⟩:∃ U,U=u j:=⟨_,rfl⟩
   obtain⟨C,hC⟩:∃ C,C=aheadB u unit j:=⟨_,rfl⟩
   rw[← hL,← hU,← hC] at hbes
   have hL0:0≤L∧L < 256:=by rw [hL]; exact ahead_byte HR8.out _ _
   have hU0:0≤U∧U < 256:=by rw [hU]; exact HU8.out j
   have hC0:0≤C∧C < 256:=by rw [hC]; exact ahead_byte HU8.out _ _
   have hkd:=fun W=>nothing_any L U C W
   have HY:Hid (told 0 L U C=says 0 r u unit j):=by
    show _=_
    unfold says
    rw[hL,hU,hC]
   obtain⟨Y,hY⟩:∃ Y,Y=told 0 L U C:=⟨_,rfl⟩
   have hY0:0≤Y∧Y < 256:=by rw [hY]; exact told_byte 0 hL0 hU0 hC0
   rw[← hY] at hkd HY
   obtain⟨Z,hZ⟩:∃ Z,Z=(X+256 - Y) % 256:=⟨_,rfl⟩
   have hZ0:0≤Z∧Z < 256:=by omega
   have u8w:IntKind.u8.wrap (X - Y)=Z:=by show (X - Y) % 256=Z; omega
   have HN:Hid (Z=filtB 0 r u unit j):=by
    show Z=_
    unfold filtB
    rw[← HY.out,← hX,hZ]
   have u8y:IntKind.u8.wrap Y=Y:=by show Y % 256=Y; omega
   have dl:decide ((j:Int) < (n:Int))=true:=decide_eq_true (by omega)
   have x0:(0:Int)≤(j:Int):=by omega
   have x1:(j:Int) < (n:Int):=by omega
   clear hX hY hZ hL hU hC
   go_wp2_with fail
   refine wp_region_held (S:=fun u=>u.cell? ⟨gr,j,none⟩=some (.int .u8 X)∧gr < u.heap.size) (by kernel_rfl) ?_
   show wpAnyH _ _ _ _ _ _ _ _ wr.drew
   have HS:wr.drew.cell? ⟨gr,j,none⟩=some (.int .u8 X)∧gr < wr.drew.heap.size:=⟨cb',hbl⟩
   refine wpAnyH_take (i:=0) (v:=.slice (some ⟨G,off,none⟩) n cs) rfl (by kernel_rfl) (by kernel_rfl) (by kernel_rfl) (fun _ _ _ h=>h) (Or.inl ⟨by rfl,?_⟩) HS ?_
   ·intro w' hS
    obtain⟨s0,s1⟩:=hS
    go_simp
   simp only [Act.put,List.getElem_toArray,List.getElem_cons_zero,List.setIfInBounds_toArray,List.set_cons_zero,List.set_cons_succ]
   refine wpAnyH_take (i:=1) (v:=.int .i64 (j:Int)) rfl (by kernel_rfl) (by kernel_rfl) (by kernel_rfl) (fun _ _ _ h=>h) (Or.inl ⟨by rfl,?_⟩) HS ?_
   ·intro w' hS
    obtain⟨s0,s1⟩:=hS
    go_simp
   simp only [Act.put,List.getElem_toArray,List.getElem_cons_zero,List.getElem_cons_succ,List.setIfInBounds_toArray,List.set_cons_zero,List.set_cons_succ]
   refine wpAnyH_take (i:=2) (v:=.slice (some ⟨gr,0,none⟩) n cr) rfl (by kernel_rfl) (by kernel_rfl) (by kernel_rfl) (fun _ _ _ h=>h) (Or.inl ⟨by rfl,?_⟩) HS ?_
   ·intro w' hS
    obtain⟨s0,s1⟩:=hS
    go_simp
   simp only [Act.put,List.getElem_toArray,List.getElem_cons_zero,List.getElem_cons_succ,List.setIfInBounds_toArray,List.set_cons_zero,List.set_cons_succ]
   refine wpAnyH_take (i:=3) (v:=.int .i64 (j:Int)) rfl (by kernel_rfl) (by kernel_rfl) (by kernel_rfl) (fun _ _ _ h=>h) (Or.inl ⟨by rfl,?_⟩) HS ?_
   ·intro w' hS
    obtain⟨s0,s1⟩:=hS
    go_simp
   simp only [Act.put,List.getElem_toArray,List.getElem_cons_zero,List.getElem_cons_succ,List.setIfInBounds_toArray,List.set_cons_zero,List.set_cons_succ]
   refine wpAnyH_take (i:=4) (v:=.pointer (some ⟨gr,j,none⟩)) rfl (by kernel_rfl) (by kernel_rfl) (by kernel_rfl) (fun _ _ _ h=>h) (Or.inl ⟨by rfl,?_⟩) HS ?_
   ·intro w' hS
    obtain⟨s0,s1⟩:=hS
    go_simp
   simp only [Act.put,List.getElem_toArray,List.getElem_cons_zero,List.getElem_cons_succ,List.setIfInBounds_toArray,List.set_cons_zero,List.set_cons_succ]
   refine wpAnyH_take (i:=5) (v:=.int .u8 X) rfl (by kernel_rfl) (by kernel_rfl) (by kernel_rfl) (fun _ _ _ h=>h) (Or.inl ⟨by rfl,?_⟩) HS ?_
   ·intro w' hS
    obtain⟨s0,s1⟩:=hS
    go_simp
   simp only [Act.put,List.getElem_toArray,List.getElem_cons_zero,List.getElem_cons_succ,List.setIfInBounds_toArray,List.set_cons_zero,List.set_cons_succ]
   refine wpAnyH_take (i:=6) (v:=fnV 108) rfl (by kernel_rfl) (by kernel_rfl) (by kernel_rfl) (fun _ _ _ h=>h) (Or.inl ⟨by rfl,?_⟩) HS ?_
   ·intro w' hS
    obtain⟨s0,s1⟩:=hS
    go_simp
   simp only [Act.put,List.getElem_toArray,List.getElem_cons_zero,List.getElem_cons_succ,List.setIfInBounds_toArray,List.set_cons_zero,List.set_cons_succ]
   refine wpAnyH_take (i:=7) (v:=.slice (some ⟨gr,0,none⟩) n cr) rfl (by kernel_rfl) (by kernel_rfl) (by kernel_rfl) (fun _ _ _ h=>h) (Or.inl ⟨by rfl,?_⟩) HS ?_
   ·intro w' hS
    obtain⟨s0,s1⟩:=hS
    go_simp
   simp only [Act.put,List.getElem_toArray,List.getElem_cons_zero,List.getElem_cons_succ,List.setIfInBounds_toArray,List.set_cons_zero,List.set_cons_succ]
   refine wpAnyH_take (i:=8) (v:=.slice (some ⟨ga,0,none⟩) n ca) rfl (by kernel_rfl) (by kernel_rfl) (by kernel_rfl) (fun _ _ _ h=>h) (Or.inl ⟨by rfl,?_⟩) HS ?_
   ·intro w' hS
    obtain⟨s0,s1⟩:=hS
    go_simp
   simp only [Act.put,List.getElem_toArray,List.getElem_cons_zero,List.getElem_cons_succ,List.setIfInBounds_toArray,List.set_cons_zero,List.set_cons_succ]
   refine wpAnyH_take (i:=9) (v:=.int .i64 (j:Int)) rfl (by kernel_rfl) (by kernel_rfl) (by kernel_rfl) (fun _ _ _ h=>h) (Or.inl ⟨by rfl,?_⟩) HS ?_
   ·intro w' hS
    obtain⟨s0,s1⟩:=hS
    go_simp
   simp only [Act.put,List.getElem_toArray,List.getElem_cons_zero,List.getElem_cons_succ,List.setIfInBounds_toArray,List.set_cons_zero,List.set_cons_succ]
   refine wpAnyH_take (i:=10) (v:=.int .i64 (unit:Int)) rfl (by kernel_rfl) (by kernel_rfl) (by kernel_rfl) (fun _ _ _ h=>h) (Or.inl ⟨by rfl,?_⟩) HS ?_
   ·intro w' hS
    obtain⟨s0,s1⟩:=hS
    go_simp
   simp only [Act.put,List.getElem_toArray,List.getElem_cons_zero,List.getElem_cons_succ,List.setIfInBounds_toArray,List.set_cons_zero,List.set_cons_succ]
   refine wpAnyH_ready (rs:=[11]) (by kernel_rfl) (by simp) ?_
   refine AllReadyH.cons rfl (fun K hK=>?_) AllReadyH.nil
   refine if_wanted (wanted_none rfl) ?_
   simp only [List.getElem_toArray,List.getElem_cons_zero,List.getElem_cons_succ]
   go_simp
   refine hbes.mono ?_
   rintro e w4 ⟨rfl,hB4⟩
   have HB4:Hid (Below wr.heap.size wr w4):=⟨hB4.1,hB4.2,hB4.3,hB4.4,hB4.5⟩
   have cb4:w4.cell? ⟨gr,j,none⟩=some (.int .u8 X):=((bcell HB4.out).1 _ _ hbl).trans cb'
   have hb4:gr < w4.heap.size:=Nat.lt_of_lt_of_le hbl HB4.out.size
   clear hB4 hbes HS
   refine hK.out _ _ ⟨cb4,hb4⟩ (fun HS=>?_)
   clear hK K
   refine wpAnyH_ready (rs:=[12]) (by kernel_rfl) (by simp) ?_
   refine AllReadyH.cons rfl (fun K hK=>?_) AllReadyH.nil
   refine if_wanted (wanted_none rfl) ?_
   simp only [List.getElem_toArray,List.getElem_cons_zero,List.getElem_cons_succ]
   go_simp
   refine (hkd _).mono ?_
   rintro e w5 ⟨rfl,hB5⟩
   have HB5:Hid (Below wr.heap.size wr w5):=bnext HB4.out hB5
   have cb5:w5.cell? ⟨gr,j,none⟩=some (.int .u8 X):=((bcell HB5.out).1 _ _ hbl).trans cb'
   have hb5:gr < w5.heap.size:=Nat.lt_of_lt_of_le hbl HB5.out.size
   clear hB5 hkd HB4 HS cb4 hb4
   refine hK.out _ _ ⟨cb5,hb5⟩ (fun HS=>?_)
   clear hK K
   refine wpAnyH_take (i:=13) (v:=.int .u8 Y) rfl (by kernel_rfl) (by kernel_rfl) (by kernel_rfl) (fun _ _ _ h=>h) (Or.inl ⟨by rfl,?_⟩) HS ?_
   ·intro w' hS
    obtain⟨s0,s1⟩:=hS
    go_simp
   simp only [Act.put,List.getElem_toArray,List.getElem_cons_zero,List.getElem_cons_succ,List.setIfInBounds_toArray,List.set_cons_zero,List.set_cons_succ]
   refine wpAnyH_take (i:=14) (v:=.int .u8 Z) rfl (by kernel_rfl) (by kernel_rfl) (by kernel_rfl) (fun _ _ _ h=>h) (Or.inl ⟨by rfl,?_⟩) HS ?_
   ·intro w' hS
    obtain⟨s0,s1⟩:=hS
    go_simp
   simp only [Act.put,List.getElem_toArray,List.getElem_cons_zero,List.getElem_cons_succ,List.setIfInBounds_toArray,List.set_cons_zero,List.set_cons_succ]
   refine wpAnyH_take (i:=15) (v:=.pointer (some ⟨G,off+j,none⟩)) rfl (by kernel_rfl) (by kernel_rfl) (by kernel_rfl) (fun _ _ _ h=>h) (Or.inl ⟨by rfl,?_⟩) HS ?_
   ·intro w' hS
    obtain⟨s0,s1⟩:=hS
    go_simp
   simp only [Act.put,List.getElem_toArray,List.getElem_cons_zero,List.getElem_cons_succ,List.setIfInBounds_toArray,List.set_cons_zero,List.set_cons_succ]
   obtain⟨g1,g2,g3⟩:=HC.out w5 HB5.out
   refine wpAnyH_ready (rs:=[16]) (by kernel_rfl) (by simp) ?_
   refine AllReadyH.cons rfl (fun K hK=>?_) AllReadyH.nil
   refine if_wanted (wanted_none rfl) ?_
   simp only [List.getElem_toArray,List.getElem_cons_zero,List.getElem_cons_succ]
   go_simp
   refine hK.out _ _ ⟨by rw [World.cell?_setCell_other _ _ _ _ (by intro e; exact hne1 (congrArg Addr.block e).symm)]; exact cb5,by simp; exact hb5⟩ (fun _=>?_)
   clear hK K
   refine wpAnyH_done (by kernel_rfl) ?_ _
   go_wp2_with fail
   go_roundw
   case rel=>exact⟨j+1,by omega,by go_num,fltI_next hS.out hlt hN HB5.out HN.out⟩
   case measure=>simp [intOf]; omega
  ·obtain rfl:j=n:=by omega
   have dl:decide ((j:Int) < (j:Int))=false:=decide_eq_false (by omega)
   go_wp2_with fail
   go_end0
   exact⟨rfl,hS.out⟩
set_option maxRecDepth 100000 in
set_option maxHeartbeats 3200000 in
theorem filterInto_1 (r u h0:Nat→Int) (unit n base G N cb off cs gr cr ga ca:Nat) (w:World) (hu:1≤unit∧unit≤8) (hn:n≤200) (hr:∀ i,0≤r i∧r i < 256) (hub:∀ i,0≤u i∧u i < 256) (hO:BFn w base G N cb h0) (hN:off+n≤N) (hR:BAt w gr n r) (hA:BAt w ga n u) (hne1:gr≠G) (hne2:ga≠G):
  Calls Tryd.prog 86 #[.slice (some ⟨G,off,none⟩) n cs,.int .i64 1,.slice (some ⟨gr,0,none⟩) n cr,.slice (some ⟨ga,0,none⟩) n ca,.int .i64 (unit:Int)] w fun e w'=>e=.returned (.tuple #[])∧FltI w w' base G N cb off n h0 (filtB 1 r u unit) n:=by
 have HR8:=hid_of hr
 have HU8:=hid_of hub
 have HRR:=hid_of hR
 clear hR
 have HAA:=hid_of hA
 clear hr hub hA
 go_enter Tryd.func86,Tryd.ntmps86
 go_wp2_with fail
 refine (kinds_any _).mono ?_
 rintro e w1 ⟨rfl,hm,hB1⟩
 have lk:(Instr.lookup 109 (.map (some w.heap.size)) (.int .i64 1) false).run Tryd.prog w1=.ok (fnV 109) w1:=kind_take hm 1 (by omega)
 have H0:Hid (FltI w w1 base G N cb off n h0 (filtB 1 r u unit) 0):=⟨h0,hO.called hB1,fun i hi=>absurd hi (Nat.not_lt_zero i),fun _ _=>rfl,But.of_below hB1⟩
 clear hm hB1 hO
 go_wp2_with fail
 go_loopw [17] (fun i w'=>∃ j:Nat,j≤n∧i=.int .i64 (j:Int)∧Hid (FltI w w' base G N cb off n h0 (filtB 1 r u unit) j)) (fun i _=>n - (intOf i).toNat)
 case atStart=>exact⟨0,Nat.zero_le _,rfl,H0⟩
 case round=>
  clear H0 lk
  obtain⟨j,hj,rfl,hS⟩:=hrel
  by_cases hlt:j < n
  ·obtain⟨h,hO,hh,ho,hBB⟩:=hS.out
   have hRr:=HRR.out.but hBB hne1
   have hAr:=HAA.out.but hBB hne2
   have hcell:=hO.cell (off+j) (by omega)
   have hfree:=hO.free (off+j) (by omega)
   have gl:G < wr.heap.size:=Own.lt hO
   have HC:Hid (∀ w',Below wr.heap.size wr w'→w'.cell? ⟨G,off+j,none⟩=some (.int .u8 (h (off+j)))∧w'.frozen? ⟨G,off+j,none⟩=false∧G < w'.heap.size):=fun w' hb=>⟨((bcell hb).1 _ _ gl).trans hcell,((bcell hb).2 _ _ gl).trans hfree,Nat.lt_of_lt_of_le gl hb.size⟩
   clear hh ho hBB hO hcell hfree
   obtain⟨hbl,hcr⟩:=hRr
   have cb':=hcr j hlt
   have hrow:unit≤j→∃ g,(some ⟨gr,0,none⟩:Option Addr)=some ⟨g,0,none⟩∧j - unit < n∧g < wr.drew.heap.size∧wr.drew.cell? ⟨g,j - unit,none⟩=some (.int .u8 (r (j - unit))):=fun _=>⟨_,rfl,by omega,hbl,hcr (j - unit) (by omega)⟩
   clear hcr
   have hbes:=beside_any (some ⟨gr,0,none⟩) n cr r u ga n ca unit j wr.drew hu hlt hn HR8.out HU8.out hAr.drew hrow
   obtain⟨X,hX⟩:∃ X,X=r j:=⟨_,rfl⟩
   have hX0:0≤X∧X < 256:=by rw [hX]; exact HR8.out j
   rw[← hX] at cb'
   clear hrow hAr
   obtain⟨L,hL⟩:∃ L,L=aheadB r unit j:=⟨_,rfl⟩
   obtain⟨U,hU⟩:∃ U,U=u j:=⟨_,rfl⟩
   obtain⟨C,hC⟩:∃ C,C=aheadB u unit j:=⟨_,rfl⟩
   rw[← hL,← hU,← hC] at hbes
   have hL0:0≤L∧L < 256:=by rw [hL]; exact ahead_byte HR8.out _ _
   have hU0:0≤U∧U < 256:=by rw [hU]; exact HU8.out j
   have hC0:0≤C∧C < 256:=by rw [hC]; exact ahead_byte HU8.out _ _
   have hkd:=fun W=>ahead_any L U C W
   have HY:Hid (told 1 L U C=says 1 r u unit j):=by
    show _=_
    unfold says
    rw[hL,hU,hC]
   obtain⟨Y,hY⟩:∃ Y,Y=told 1 L U C:=⟨_,rfl⟩
   have hY0:0≤Y∧Y < 256:=by rw [hY]; exact told_byte 1 hL0 hU0 hC0
   rw[← hY] at hkd HY
   obtain⟨Z,hZ⟩:∃ Z,Z=(X+256 - Y) % 256:=⟨_,rfl⟩
   have hZ0:0≤Z∧Z < 256:=by omega
   have u8w:IntKind.u8.wrap (X - Y)=Z:=by show (X - Y) % 256=Z; omega
   have HN:Hid (Z=filtB 1 r u unit j):=by
    show Z=_
    unfold filtB
    rw[← HY.out,← hX,hZ]
   have u8y:IntKind.u8.wrap Y=Y:=by show Y % 256=Y; omega
   have dl:decide ((j:Int) < (n:Int))=true:=decide_eq_true (by omega)
   have x0:(0:Int)≤(j:Int):=by omega
   have x1:(j:Int) < (n:Int):=by omega
   clear hX hY hZ hL hU hC
   go_wp2_with fail
   refine wp_region_held (S:=fun u=>u.cell? ⟨gr,j,none⟩=some (.int .u8 X)∧gr < u.heap.size) (by kernel_rfl) ?_
   show wpAnyH _ _ _ _ _ _ _ _ wr.drew
   have HS:wr.drew.cell? ⟨gr,j,none⟩=some (.int .u8 X)∧gr < wr.drew.heap.size:=⟨cb',hbl⟩
   refine wpAnyH_take (i:=0) (v:=.slice (some ⟨G,off,none⟩) n cs) rfl (by kernel_rfl) (by kernel_rfl) (by kernel_rfl) (fun _ _ _ h=>h) (Or.inl ⟨by rfl,?_⟩) HS ?_
   ·intro w' hS
    obtain⟨s0,s1⟩:=hS
    go_simp
   simp only [Act.put,List.getElem_toArray,List.getElem_cons_zero,List.setIfInBounds_toArray,List.set_cons_zero,List.set_cons_succ]
   refine wpAnyH_take (i:=1) (v:=.int .i64 (j:Int)) rfl (by kernel_rfl) (by kernel_rfl) (by kernel_rfl) (fun _ _ _ h=>h) (Or.inl ⟨by rfl,?_⟩) HS ?_
   ·intro w' hS
    obtain⟨s0,s1⟩:=hS
    go_simp
   simp only [Act.put,List.getElem_toArray,List.getElem_cons_zero,List.getElem_cons_succ,List.setIfInBounds_toArray,List.set_cons_zero,List.set_cons_succ]
   refine wpAnyH_take (i:=2) (v:=.slice (some ⟨gr,0,none⟩) n cr) rfl (by kernel_rfl) (by kernel_rfl) (by kernel_rfl) (fun _ _ _ h=>h) (Or.inl ⟨by rfl,?_⟩) HS ?_
   ·intro w' hS
    obtain⟨s0,s1⟩:=hS
    go_simp
   simp only [Act.put,List.getElem_toArray,List.getElem_cons_zero,List.getElem_cons_succ,List.setIfInBounds_toArray,List.set_cons_zero,List.set_cons_succ]
   refine wpAnyH_take (i:=3) (v:=.int .i64 (j:Int)) rfl (by kernel_rfl) (by kernel_rfl) (by kernel_rfl) (fun _ _ _ h=>h) (Or.inl ⟨by rfl,?_⟩) HS ?_
   ·intro w' hS
    obtain⟨s0,s1⟩:=hS
    go_simp
   simp only [Act.put,List.getElem_toArray,List.getElem_cons_zero,List.getElem_cons_succ,List.setIfInBounds_toArray,List.set_cons_zero,List.set_cons_succ]
   refine wpAnyH_take (i:=4) (v:=.pointer (some ⟨gr,j,none⟩)) rfl (by kernel_rfl) (by kernel_rfl) (by kernel_rfl) (fun _ _ _ h=>h) (Or.inl ⟨by rfl,?_⟩) HS ?_
   ·intro w' hS
    obtain⟨s0,s1⟩:=hS
    go_simp
   simp only [Act.put,List.getElem_toArray,List.getElem_cons_zero,List.getElem_cons_succ,List.setIfInBounds_toArray,List.set_cons_zero,List.set_cons_succ]
   refine wpAnyH_take (i:=5) (v:=.int .u8 X) rfl (by kernel_rfl) (by kernel_rfl) (by kernel_rfl) (fun _ _ _ h=>h) (Or.inl ⟨by rfl,?_⟩) HS ?_
   ·intro w' hS
    obtain⟨s0,s1⟩:=hS
    go_simp
   simp only [Act.put,List.getElem_toArray,List.getElem_cons_zero,List.getElem_cons_succ,List.setIfInBounds_toArray,List.set_cons_zero,List.set_cons_succ]
   refine wpAnyH_take (i:=6) (v:=fnV 109) rfl (by kernel_rfl) (by kernel_rfl) (by kernel_rfl) (fun _ _ _ h=>h) (Or.inl ⟨by rfl,?_⟩) HS ?_
   ·intro w' hS
    obtain⟨s0,s1⟩:=hS
    go_simp
   simp only [Act.put,List.getElem_toArray,List.getElem_cons_zero,List.getElem_cons_succ,List.setIfInBounds_toArray,List.set_cons_zero,List.set_cons_succ]
   refine wpAnyH_take (i:=7) (v:=.slice (some ⟨gr,0,none⟩) n cr) rfl (by kernel_rfl) (by kernel_rfl) (by kernel_rfl) (fun _ _ _ h=>h) (Or.inl ⟨by rfl,?_⟩) HS ?_
   ·intro w' hS
    obtain⟨s0,s1⟩:=hS
    go_simp
   simp only [Act.put,List.getElem_toArray,List.getElem_cons_zero,List.getElem_cons_succ,List.setIfInBounds_toArray,List.set_cons_zero,List.set_cons_succ]
   refine wpAnyH_take (i:=8) (v:=.slice (some ⟨ga,0,none⟩) n ca) rfl (by kernel_rfl) (by kernel_rfl) (by kernel_rfl) (fun _ _ _ h=>h) (Or.inl ⟨by rfl,?_⟩) HS ?_
   ·intro w' hS
    obtain⟨s0,s1⟩:=hS
    go_simp
   simp only [Act.put,List.getElem_toArray,List.getElem_cons_zero,List.getElem_cons_succ,List.setIfInBounds_toArray,List.set_cons_zero,List.set_cons_succ]
   refine wpAnyH_take (i:=9) (v:=.int .i64 (j:Int)) rfl (by kernel_rfl) (by kernel_rfl) (by kernel_rfl) (fun _ _ _ h=>h) (Or.inl ⟨by rfl,?_⟩) HS ?_
   ·intro w' hS
    obtain⟨s0,s1⟩:=hS
    go_simp
   simp only [Act.put,List.getElem_toArray,List.getElem_cons_zero,List.getElem_cons_succ,List.setIfInBounds_toArray,List.set_cons_zero,List.set_cons_succ]
   refine wpAnyH_take (i:=10) (v:=.int .i64 (unit:Int)) rfl (by kernel_rfl) (by kernel_rfl) (by kernel_rfl) (fun _ _ _ h=>h) (Or.inl ⟨by rfl,?_⟩) HS ?_
   ·intro w' hS
    obtain⟨s0,s1⟩:=hS
    go_simp
   simp only [Act.put,List.getElem_toArray,List.getElem_cons_zero,List.getElem_cons_succ,List.setIfInBounds_toArray,List.set_cons_zero,List.set_cons_succ]
   refine wpAnyH_ready (rs:=[11]) (by kernel_rfl) (by simp) ?_
   refine AllReadyH.cons rfl (fun K hK=>?_) AllReadyH.nil
   refine if_wanted (wanted_none rfl) ?_
   simp only [List.getElem_toArray,List.getElem_cons_zero,List.getElem_cons_succ]
   go_simp
   refine hbes.mono ?_
   rintro e w4 ⟨rfl,hB4⟩
   have HB4:Hid (Below wr.heap.size wr w4):=⟨hB4.1,hB4.2,hB4.3,hB4.4,hB4.5⟩
   have cb4:w4.cell? ⟨gr,j,none⟩=some (.int .u8 X):=((bcell HB4.out).1 _ _ hbl).trans cb'
   have hb4:gr < w4.heap.size:=Nat.lt_of_lt_of_le hbl HB4.out.size
   clear hB4 hbes HS
   refine hK.out _ _ ⟨cb4,hb4⟩ (fun HS=>?_)
   clear hK K
   refine wpAnyH_ready (rs:=[12]) (by kernel_rfl) (by simp) ?_
   refine AllReadyH.cons rfl (fun K hK=>?_) AllReadyH.nil
   refine if_wanted (wanted_none rfl) ?_
   simp only [List.getElem_toArray,List.getElem_cons_zero,List.getElem_cons_succ]
   go_simp
   refine (hkd _).mono ?_
   rintro e w5 ⟨rfl,hB5⟩
   have HB5:Hid (Below wr.heap.size wr w5):=bnext HB4.out hB5
   have cb5:w5.cell? ⟨gr,j,none⟩=some (.int .u8 X):=((bcell HB5.out).1 _ _ hbl).trans cb'
   have hb5:gr < w5.heap.size:=Nat.lt_of_lt_of_le hbl HB5.out.size
   clear hB5 hkd HB4 HS cb4 hb4
   refine hK.out _ _ ⟨cb5,hb5⟩ (fun HS=>?_)
   clear hK K
   refine wpAnyH_take (i:=13) (v:=.int .u8 Y) rfl (by kernel_rfl) (by kernel_rfl) (by kernel_rfl) (fun _ _ _ h=>h) (Or.inl ⟨by rfl,?_⟩) HS ?_
   ·intro w' hS
    obtain⟨s0,s1⟩:=hS
    go_simp
   simp only [Act.put,List.getElem_toArray,List.getElem_cons_zero,List.getElem_cons_succ,List.setIfInBounds_toArray,List.set_cons_zero,List.set_cons_succ]
   refine wpAnyH_take (i:=14) (v:=.int .u8 Z) rfl (by kernel_rfl) (by kernel_rfl) (by kernel_rfl) (fun _ _ _ h=>h) (Or.inl ⟨by rfl,?_⟩) HS ?_
   ·intro w' hS
    obtain⟨s0,s1⟩:=hS
    go_simp
   simp only [Act.put,List.getElem_toArray,List.getElem_cons_zero,List.getElem_cons_succ,List.setIfInBounds_toArray,List.set_cons_zero,List.set_cons_succ]
   refine wpAnyH_take (i:=15) (v:=.pointer (some ⟨G,off+j,none⟩)) rfl (by kernel_rfl) (by kernel_rfl) (by kernel_rfl) (fun _ _ _ h=>h) (Or.inl ⟨by rfl,?_⟩) HS ?_
   ·intro w' hS
    obtain⟨s0,s1⟩:=hS
    go_simp
   simp only [Act.put,List.getElem_toArray,List.getElem_cons_zero,List.getElem_cons_succ,List.setIfInBounds_toArray,List.set_cons_zero,List.set_cons_succ]
   obtain⟨g1,g2,g3⟩:=HC.out w5 HB5.out
   refine wpAnyH_ready (rs:=[16]) (by kernel_rfl) (by simp) ?_
   refine AllReadyH.cons rfl (fun K hK=>?_) AllReadyH.nil
   refine if_wanted (wanted_none rfl) ?_
   simp only [List.getElem_toArray,List.getElem_cons_zero,List.getElem_cons_succ]
   go_simp
   refine hK.out _ _ ⟨by rw [World.cell?_setCell_other _ _ _ _ (by intro e; exact hne1 (congrArg Addr.block e).symm)]; exact cb5,by simp; exact hb5⟩ (fun _=>?_)
   clear hK K
   refine wpAnyH_done (by kernel_rfl) ?_ _
   go_wp2_with fail
   go_roundw
   case rel=>exact⟨j+1,by omega,by go_num,fltI_next hS.out hlt hN HB5.out HN.out⟩
   case measure=>simp [intOf]; omega
  ·obtain rfl:j=n:=by omega
   have dl:decide ((j:Int) < (j:Int))=false:=decide_eq_false (by omega)
   go_wp2_with fail
   go_end0
   exact⟨rfl,hS.out⟩
set_option maxRecDepth 100000 in
set_option maxHeartbeats 3200000 in
theorem filterInto_2 (r u h0:Nat→Int) (unit n base G N cb off cs gr cr ga ca:Nat) (w:World) (hu:1≤unit∧unit≤8) (hn:n≤200) (hr:∀ i,0≤r i∧r i < 256) (hub:∀ i,0≤u i∧u i < 256) (hO:BFn w base G N cb h0) (hN:off+n≤N) (hR:BAt w gr n r) (hA:BAt w ga n u) (hne1:gr≠G) (hne2:ga≠G):
  Calls Tryd.prog 86 #[.slice (some ⟨G,off,none⟩) n cs,.int .i64 2,.slice (some ⟨gr,0,none⟩) n cr,.slice (some ⟨ga,0,none⟩) n ca,.int .i64 (unit:Int)] w fun e w'=>e=.returned (.tuple #[])∧FltI w w' base G N cb off n h0 (filtB 2 r u unit) n:=by
 have HR8:=hid_of hr
 have HU8:=hid_of hub
 have HRR:=hid_of hR
 clear hR
 have HAA:=hid_of hA
 clear hr hub hA
 go_enter Tryd.func86,Tryd.ntmps86
 go_wp2_with fail
 refine (kinds_any _).mono ?_
 rintro e w1 ⟨rfl,hm,hB1⟩
 have lk:(Instr.lookup 109 (.map (some w.heap.size)) (.int .i64 2) false).run Tryd.prog w1=.ok (fnV 110) w1:=kind_take hm 2 (by omega)
 have H0:Hid (FltI w w1 base G N cb off n h0 (filtB 2 r u unit) 0):=⟨h0,hO.called hB1,fun i hi=>absurd hi (Nat.not_lt_zero i),fun _ _=>rfl,But.of_below hB1⟩
 clear hm hB1 hO
 go_wp2_with fail
 go_loopw [17] (fun i w'=>∃ j:Nat,j≤n∧i=.int .i64 (j:Int)∧Hid (FltI w w' base G N cb off n h0 (filtB 2 r u unit) j)) (fun i _=>n - (intOf i).toNat)
 case atStart=>exact⟨0,Nat.zero_le _,rfl,H0⟩
 case round=>
  clear H0 lk
  obtain⟨j,hj,rfl,hS⟩:=hrel
  by_cases hlt:j < n
  ·obtain⟨h,hO,hh,ho,hBB⟩:=hS.out
   have hRr:=HRR.out.but hBB hne1
   have hAr:=HAA.out.but hBB hne2
   have hcell:=hO.cell (off+j) (by omega)
   have hfree:=hO.free (off+j) (by omega)
   have gl:G < wr.heap.size:=Own.lt hO
   have HC:Hid (∀ w',Below wr.heap.size wr w'→w'.cell? ⟨G,off+j,none⟩=some (.int .u8 (h (off+j)))∧w'.frozen? ⟨G,off+j,none⟩=false∧G < w'.heap.size):=fun w' hb=>⟨((bcell hb).1 _ _ gl).trans hcell,((bcell hb).2 _ _ gl).trans hfree,Nat.lt_of_lt_of_le gl hb.size⟩
   clear hh ho hBB hO hcell hfree
   obtain⟨hbl,hcr⟩:=hRr
   have cb':=hcr j hlt
   have hrow:unit≤j→∃ g,(some ⟨gr,0,none⟩:Option Addr)=some ⟨g,0,none⟩∧j - unit < n∧g < wr.drew.heap.size∧wr.drew.cell? ⟨g,j - unit,none⟩=some (.int .u8 (r (j - unit))):=fun _=>⟨_,rfl,by omega,hbl,hcr (j - unit) (by omega)⟩
   clear hcr
   have hbes:=beside_any (some ⟨gr,0,none⟩) n cr r u ga n ca unit j wr.drew hu hlt hn HR8.out HU8.out hAr.drew hrow
   obtain⟨X,hX⟩:∃ X,X=r j:=⟨_,rfl⟩
   have hX0:0≤X∧X < 256:=by rw [hX]; exact HR8.out j
   rw[← hX] at cb'
   clear hrow hAr
   obtain⟨L,hL⟩:∃ L,L=aheadB r unit j:=⟨_,rfl⟩
   obtain⟨U,hU⟩:∃ U,U=u j:=⟨_,rfl⟩
   obtain⟨C,hC⟩:∃ C,C=aheadB u unit j:=⟨_,rfl⟩
   rw[← hL,← hU,← hC] at hbes
   have hL0:0≤L∧L < 256:=by rw [hL]; exact ahead_byte HR8.out _ _
   have hU0:0≤U∧U < 256:=by rw [hU]; exact HU8.out j
   have hC0:0≤C∧C < 256:=by rw [hC]; exact ahead_byte HU8.out _ _
   have hkd:=fun W=>above_any L U C W
   have HY:Hid (told 2 L U C=says 2 r u unit j):=by
    show _=_
    unfold says
    rw[hL,hU,hC]
   obtain⟨Y,hY⟩:∃ Y,Y=told 2 L U C:=⟨_,rfl⟩
   have hY0:0≤Y∧Y < 256:=by rw [hY]; exact told_byte 2 hL0 hU0 hC0
   rw[← hY] at hkd HY
   obtain⟨Z,hZ⟩:∃ Z,Z=(X+256 - Y) % 256:=⟨_,rfl⟩
   have hZ0:0≤Z∧Z < 256:=by omega
   have u8w:IntKind.u8.wrap (X - Y)=Z:=by show (X - Y) % 256=Z; omega
   have HN:Hid (Z=filtB 2 r u unit j):=by
    show Z=_
    unfold filtB
    rw[← HY.out,← hX,hZ]
   have u8y:IntKind.u8.wrap Y=Y:=by show Y % 256=Y; omega
   have dl:decide ((j:Int) < (n:Int))=true:=decide_eq_true (by omega)
   have x0:(0:Int)≤(j:Int):=by omega
   have x1:(j:Int) < (n:Int):=by omega
   clear hX hY hZ hL hU hC
   go_wp2_with fail
   refine wp_region_held (S:=fun u=>u.cell? ⟨gr,j,none⟩=some (.int .u8 X)∧gr < u.heap.size) (by kernel_rfl) ?_
   show wpAnyH _ _ _ _ _ _ _ _ wr.drew
   have HS:wr.drew.cell? ⟨gr,j,none⟩=some (.int .u8 X)∧gr < wr.drew.heap.size:=⟨cb',hbl⟩
   refine wpAnyH_take (i:=0) (v:=.slice (some ⟨G,off,none⟩) n cs) rfl (by kernel_rfl) (by kernel_rfl) (by kernel_rfl) (fun _ _ _ h=>h) (Or.inl ⟨by rfl,?_⟩) HS ?_
   ·intro w' hS
    obtain⟨s0,s1⟩:=hS
    go_simp
   simp only [Act.put,List.getElem_toArray,List.getElem_cons_zero,List.setIfInBounds_toArray,List.set_cons_zero,List.set_cons_succ]
   refine wpAnyH_take (i:=1) (v:=.int .i64 (j:Int)) rfl (by kernel_rfl) (by kernel_rfl) (by kernel_rfl) (fun _ _ _ h=>h) (Or.inl ⟨by rfl,?_⟩) HS ?_
   ·intro w' hS
    obtain⟨s0,s1⟩:=hS
    go_simp
   simp only [Act.put,List.getElem_toArray,List.getElem_cons_zero,List.getElem_cons_succ,List.setIfInBounds_toArray,List.set_cons_zero,List.set_cons_succ]
   refine wpAnyH_take (i:=2) (v:=.slice (some ⟨gr,0,none⟩) n cr) rfl (by kernel_rfl) (by kernel_rfl) (by kernel_rfl) (fun _ _ _ h=>h) (Or.inl ⟨by rfl,?_⟩) HS ?_
   ·intro w' hS
    obtain⟨s0,s1⟩:=hS
    go_simp
   simp only [Act.put,List.getElem_toArray,List.getElem_cons_zero,List.getElem_cons_succ,List.setIfInBounds_toArray,List.set_cons_zero,List.set_cons_succ]
   refine wpAnyH_take (i:=3) (v:=.int .i64 (j:Int)) rfl (by kernel_rfl) (by kernel_rfl) (by kernel_rfl) (fun _ _ _ h=>h) (Or.inl ⟨by rfl,?_⟩) HS ?_
   ·intro w' hS
    obtain⟨s0,s1⟩:=hS
    go_simp
   simp only [Act.put,List.getElem_toArray,List.getElem_cons_zero,List.getElem_cons_succ,List.setIfInBounds_toArray,List.set_cons_zero,List.set_cons_succ]
   refine wpAnyH_take (i:=4) (v:=.pointer (some ⟨gr,j,none⟩)) rfl (by kernel_rfl) (by kernel_rfl) (by kernel_rfl) (fun _ _ _ h=>h) (Or.inl ⟨by rfl,?_⟩) HS ?_
   ·intro w' hS
    obtain⟨s0,s1⟩:=hS
    go_simp
   simp only [Act.put,List.getElem_toArray,List.getElem_cons_zero,List.getElem_cons_succ,List.setIfInBounds_toArray,List.set_cons_zero,List.set_cons_succ]
   refine wpAnyH_take (i:=5) (v:=.int .u8 X) rfl (by kernel_rfl) (by kernel_rfl) (by kernel_rfl) (fun _ _ _ h=>h) (Or.inl ⟨by rfl,?_⟩) HS ?_
   ·intro w' hS
    obtain⟨s0,s1⟩:=hS
    go_simp
   simp only [Act.put,List.getElem_toArray,List.getElem_cons_zero,List.getElem_cons_succ,List.setIfInBounds_toArray,List.set_cons_zero,List.set_cons_succ]
   refine wpAnyH_take (i:=6) (v:=fnV 110) rfl (by kernel_rfl) (by kernel_rfl) (by kernel_rfl) (fun _ _ _ h=>h) (Or.inl ⟨by rfl,?_⟩) HS ?_
   ·intro w' hS
    obtain⟨s0,s1⟩:=hS
    go_simp
   simp only [Act.put,List.getElem_toArray,List.getElem_cons_zero,List.getElem_cons_succ,List.setIfInBounds_toArray,List.set_cons_zero,List.set_cons_succ]
   refine wpAnyH_take (i:=7) (v:=.slice (some ⟨gr,0,none⟩) n cr) rfl (by kernel_rfl) (by kernel_rfl) (by kernel_rfl) (fun _ _ _ h=>h) (Or.inl ⟨by rfl,?_⟩) HS ?_
   ·intro w' hS
    obtain⟨s0,s1⟩:=hS
    go_simp
   simp only [Act.put,List.getElem_toArray,List.getElem_cons_zero,List.getElem_cons_succ,List.setIfInBounds_toArray,List.set_cons_zero,List.set_cons_succ]
   refine wpAnyH_take (i:=8) (v:=.slice (some ⟨ga,0,none⟩) n ca) rfl (by kernel_rfl) (by kernel_rfl) (by kernel_rfl) (fun _ _ _ h=>h) (Or.inl ⟨by rfl,?_⟩) HS ?_
   ·intro w' hS
    obtain⟨s0,s1⟩:=hS
    go_simp
   simp only [Act.put,List.getElem_toArray,List.getElem_cons_zero,List.getElem_cons_succ,List.setIfInBounds_toArray,List.set_cons_zero,List.set_cons_succ]
   refine wpAnyH_take (i:=9) (v:=.int .i64 (j:Int)) rfl (by kernel_rfl) (by kernel_rfl) (by kernel_rfl) (fun _ _ _ h=>h) (Or.inl ⟨by rfl,?_⟩) HS ?_
   ·intro w' hS
    obtain⟨s0,s1⟩:=hS
    go_simp
   simp only [Act.put,List.getElem_toArray,List.getElem_cons_zero,List.getElem_cons_succ,List.setIfInBounds_toArray,List.set_cons_zero,List.set_cons_succ]
   refine wpAnyH_take (i:=10) (v:=.int .i64 (unit:Int)) rfl (by kernel_rfl) (by kernel_rfl) (by kernel_rfl) (fun _ _ _ h=>h) (Or.inl ⟨by rfl,?_⟩) HS ?_
   ·intro w' hS
    obtain⟨s0,s1⟩:=hS
    go_simp
   simp only [Act.put,List.getElem_toArray,List.getElem_cons_zero,List.getElem_cons_succ,List.setIfInBounds_toArray,List.set_cons_zero,List.set_cons_succ]
   refine wpAnyH_ready (rs:=[11]) (by kernel_rfl) (by simp) ?_
   refine AllReadyH.cons rfl (fun K hK=>?_) AllReadyH.nil
   refine if_wanted (wanted_none rfl) ?_
   simp only [List.getElem_toArray,List.getElem_cons_zero,List.getElem_cons_succ]
   go_simp
   refine hbes.mono ?_
   rintro e w4 ⟨rfl,hB4⟩
   have HB4:Hid (Below wr.heap.size wr w4):=⟨hB4.1,hB4.2,hB4.3,hB4.4,hB4.5⟩
   have cb4:w4.cell? ⟨gr,j,none⟩=some (.int .u8 X):=((bcell HB4.out).1 _ _ hbl).trans cb'
   have hb4:gr < w4.heap.size:=Nat.lt_of_lt_of_le hbl HB4.out.size
   clear hB4 hbes HS
   refine hK.out _ _ ⟨cb4,hb4⟩ (fun HS=>?_)
   clear hK K
   refine wpAnyH_ready (rs:=[12]) (by kernel_rfl) (by simp) ?_
   refine AllReadyH.cons rfl (fun K hK=>?_) AllReadyH.nil
   refine if_wanted (wanted_none rfl) ?_
   simp only [List.getElem_toArray,List.getElem_cons_zero,List.getElem_cons_succ]
   go_simp
   refine (hkd _).mono ?_
   rintro e w5 ⟨rfl,hB5⟩
   have HB5:Hid (Below wr.heap.size wr w5):=bnext HB4.out hB5
   have cb5:w5.cell? ⟨gr,j,none⟩=some (.int .u8 X):=((bcell HB5.out).1 _ _ hbl).trans cb'
   have hb5:gr < w5.heap.size:=Nat.lt_of_lt_of_le hbl HB5.out.size
   clear hB5 hkd HB4 HS cb4 hb4
   refine hK.out _ _ ⟨cb5,hb5⟩ (fun HS=>?_)
   clear hK K
   refine wpAnyH_take (i:=13) (v:=.int .u8 Y) rfl (by kernel_rfl) (by kernel_rfl) (by kernel_rfl) (fun _ _ _ h=>h) (Or.inl ⟨by rfl,?_⟩) HS ?_
   ·intro w' hS
    obtain⟨s0,s1⟩:=hS
    go_simp
   simp only [Act.put,List.getElem_toArray,List.getElem_cons_zero,List.getElem_cons_succ,List.setIfInBounds_toArray,List.set_cons_zero,List.set_cons_succ]
   refine wpAnyH_take (i:=14) (v:=.int .u8 Z) rfl (by kernel_rfl) (by kernel_rfl) (by kernel_rfl) (fun _ _ _ h=>h) (Or.inl ⟨by rfl,?_⟩) HS ?_
   ·intro w' hS
    obtain⟨s0,s1⟩:=hS
    go_simp
   simp only [Act.put,List.getElem_toArray,List.getElem_cons_zero,List.getElem_cons_succ,List.setIfInBounds_toArray,List.set_cons_zero,List.set_cons_succ]
   refine wpAnyH_take (i:=15) (v:=.pointer (some ⟨G,off+j,none⟩)) rfl (by kernel_rfl) (by kernel_rfl) (by kernel_rfl) (fun _ _ _ h=>h) (Or.inl ⟨by rfl,?_⟩) HS ?_
   ·intro w' hS
    obtain⟨s0,s1⟩:=hS
    go_simp
   simp only [Act.put,List.getElem_toArray,List.getElem_cons_zero,List.getElem_cons_succ,List.setIfInBounds_toArray,List.set_cons_zero,List.set_cons_succ]
   obtain⟨g1,g2,g3⟩:=HC.out w5 HB5.out
   refine wpAnyH_ready (rs:=[16]) (by kernel_rfl) (by simp) ?_
   refine AllReadyH.cons rfl (fun K hK=>?_) AllReadyH.nil
   refine if_wanted (wanted_none rfl) ?_
   simp only [List.getElem_toArray,List.getElem_cons_zero,List.getElem_cons_succ]
   go_simp
   refine hK.out _ _ ⟨by rw [World.cell?_setCell_other _ _ _ _ (by intro e; exact hne1 (congrArg Addr.block e).symm)]; exact cb5,by simp; exact hb5⟩ (fun _=>?_)
   clear hK K
   refine wpAnyH_done (by kernel_rfl) ?_ _
   go_wp2_with fail
   go_roundw
   case rel=>exact⟨j+1,by omega,by go_num,fltI_next hS.out hlt hN HB5.out HN.out⟩
   case measure=>simp [intOf]; omega
  ·obtain rfl:j=n:=by omega
   have dl:decide ((j:Int) < (j:Int))=false:=decide_eq_false (by omega)
   go_wp2_with fail
   go_end0
   exact⟨rfl,hS.out⟩
set_option maxRecDepth 100000 in
set_option maxHeartbeats 3200000 in
theorem filterInto_3 (r u h0:Nat→Int) (unit n base G N cb off cs gr cr ga ca:Nat) (w:World) (hu:1≤unit∧unit≤8) (hn:n≤200) (hr:∀ i,0≤r i∧r i < 256) (hub:∀ i,0≤u i∧u i < 256) (hO:BFn w base G N cb h0) (hN:off+n≤N) (hR:BAt w gr n r) (hA:BAt w ga n u) (hne1:gr≠G) (hne2:ga≠G):
  Calls Tryd.prog 86 #[.slice (some ⟨G,off,none⟩) n cs,.int .i64 3,.slice (some ⟨gr,0,none⟩) n cr,.slice (some ⟨ga,0,none⟩) n ca,.int .i64 (unit:Int)] w fun e w'=>e=.returned (.tuple #[])∧FltI w w' base G N cb off n h0 (filtB 3 r u unit) n:=by
 have HR8:=hid_of hr
 have HU8:=hid_of hub
 have HRR:=hid_of hR
 clear hR
 have HAA:=hid_of hA
 clear hr hub hA
 go_enter Tryd.func86,Tryd.ntmps86
 go_wp2_with fail
 refine (kinds_any _).mono ?_
 rintro e w1 ⟨rfl,hm,hB1⟩
 have lk:(Instr.lookup 109 (.map (some w.heap.size)) (.int .i64 3) false).run Tryd.prog w1=.ok (fnV 111) w1:=kind_take hm 3 (by omega)
 have H0:Hid (FltI w w1 base G N cb off n h0 (filtB 3 r u unit) 0):=⟨h0,hO.called hB1,fun i hi=>absurd hi (Nat.not_lt_zero i),fun _ _=>rfl,But.of_below hB1⟩
 clear hm hB1 hO
 go_wp2_with fail
 go_loopw [17] (fun i w'=>∃ j:Nat,j≤n∧i=.int .i64 (j:Int)∧Hid (FltI w w' base G N cb off n h0 (filtB 3 r u unit) j)) (fun i _=>n - (intOf i).toNat)
 case atStart=>exact⟨0,Nat.zero_le _,rfl,H0⟩
 case round=>
  clear H0 lk
  obtain⟨j,hj,rfl,hS⟩:=hrel
  by_cases hlt:j < n
  ·obtain⟨h,hO,hh,ho,hBB⟩:=hS.out
   have hRr:=HRR.out.but hBB hne1
   have hAr:=HAA.out.but hBB hne2
   have hcell:=hO.cell (off+j) (by omega)
   have hfree:=hO.free (off+j) (by omega)
   have gl:G < wr.heap.size:=Own.lt hO
   have HC:Hid (∀ w',Below wr.heap.size wr w'→w'.cell? ⟨G,off+j,none⟩=some (.int .u8 (h (off+j)))∧w'.frozen? ⟨G,off+j,none⟩=false∧G < w'.heap.size):=fun w' hb=>⟨((bcell hb).1 _ _ gl).trans hcell,((bcell hb).2 _ _ gl).trans hfree,Nat.lt_of_lt_of_le gl hb.size⟩
   clear hh ho hBB hO hcell hfree
   obtain⟨hbl,hcr⟩:=hRr
   have cb':=hcr j hlt
   have hrow:unit≤j→∃ g,(some ⟨gr,0,none⟩:Option Addr)=some ⟨g,0,none⟩∧j - unit < n∧g < wr.drew.heap.size∧wr.drew.cell? ⟨g,j - unit,none⟩=some (.int .u8 (r (j - unit))):=fun _=>⟨_,rfl,by omega,hbl,hcr (j - unit) (by omega)⟩
   clear hcr
   have hbes:=beside_any (some ⟨gr,0,none⟩) n cr r u ga n ca unit j wr.drew hu hlt hn HR8.out HU8.out hAr.drew hrow
   obtain⟨X,hX⟩:∃ X,X=r j:=⟨_,rfl⟩
   have hX0:0≤X∧X < 256:=by rw [hX]; exact HR8.out j
   rw[← hX] at cb'
   clear hrow hAr
   obtain⟨L,hL⟩:∃ L,L=aheadB r unit j:=⟨_,rfl⟩
   obtain⟨U,hU⟩:∃ U,U=u j:=⟨_,rfl⟩
   obtain⟨C,hC⟩:∃ C,C=aheadB u unit j:=⟨_,rfl⟩
   rw[← hL,← hU,← hC] at hbes
   have hL0:0≤L∧L < 256:=by rw [hL]; exact ahead_byte HR8.out _ _
   have hU0:0≤U∧U < 256:=by rw [hU]; exact HU8.out j
   have hC0:0≤C∧C < 256:=by rw [hC]; exact ahead_byte HU8.out _ _
   have hkd:=fun W=>middle_any L U C W hL0 hU0
   have HY:Hid (told 3 L U C=says 3 r u unit j):=by
    show _=_
    unfold says
    rw[hL,hU,hC]
   obtain⟨Y,hY⟩:∃ Y,Y=told 3 L U C:=⟨_,rfl⟩
   have hY0:0≤Y∧Y < 256:=by rw [hY]; exact told_byte 3 hL0 hU0 hC0
   rw[← hY] at hkd HY
   obtain⟨Z,hZ⟩:∃ Z,Z=(X+256 - Y) % 256:=⟨_,rfl⟩
   have hZ0:0≤Z∧Z < 256:=by omega
   have u8w:IntKind.u8.wrap (X - Y)=Z:=by show (X - Y) % 256=Z; omega
   have HN:Hid (Z=filtB 3 r u unit j):=by
    show Z=_
    unfold filtB
    rw[← HY.out,← hX,hZ]
   have u8y:IntKind.u8.wrap Y=Y:=by show Y % 256=Y; omega
   have dl:decide ((j:Int) < (n:Int))=true:=decide_eq_true (by omega)
   have x0:(0:Int)≤(j:Int):=by omega
   have x1:(j:Int) < (n:Int):=by omega
   clear hX hY hZ hL hU hC
   go_wp2_with fail
   refine wp_region_held (S:=fun u=>u.cell? ⟨gr,j,none⟩=some (.int .u8 X)∧gr < u.heap.size) (by kernel_rfl) ?_
   show wpAnyH _ _ _ _ _ _ _ _ wr.drew
   have HS:wr.drew.cell? ⟨gr,j,none⟩=some (.int .u8 X)∧gr < wr.drew.heap.size:=⟨cb',hbl⟩
   refine wpAnyH_take (i:=0) (v:=.slice (some ⟨G,off,none⟩) n cs) rfl (by kernel_rfl) (by kernel_rfl) (by kernel_rfl) (fun _ _ _ h=>h) (Or.inl ⟨by rfl,?_⟩) HS ?_
   ·intro w' hS
    obtain⟨s0,s1⟩:=hS
    go_simp
   simp only [Act.put,List.getElem_toArray,List.getElem_cons_zero,List.setIfInBounds_toArray,List.set_cons_zero,List.set_cons_succ]
   refine wpAnyH_take (i:=1) (v:=.int .i64 (j:Int)) rfl (by kernel_rfl) (by kernel_rfl) (by kernel_rfl) (fun _ _ _ h=>h) (Or.inl ⟨by rfl,?_⟩) HS ?_
   ·intro w' hS
    obtain⟨s0,s1⟩:=hS
    go_simp
   simp only [Act.put,List.getElem_toArray,List.getElem_cons_zero,List.getElem_cons_succ,List.setIfInBounds_toArray,List.set_cons_zero,List.set_cons_succ]
   refine wpAnyH_take (i:=2) (v:=.slice (some ⟨gr,0,none⟩) n cr) rfl (by kernel_rfl) (by kernel_rfl) (by kernel_rfl) (fun _ _ _ h=>h) (Or.inl ⟨by rfl,?_⟩) HS ?_
   ·intro w' hS
    obtain⟨s0,s1⟩:=hS
    go_simp
   simp only [Act.put,List.getElem_toArray,List.getElem_cons_zero,List.getElem_cons_succ,List.setIfInBounds_toArray,List.set_cons_zero,List.set_cons_succ]
   refine wpAnyH_take (i:=3) (v:=.int .i64 (j:Int)) rfl (by kernel_rfl) (by kernel_rfl) (by kernel_rfl) (fun _ _ _ h=>h) (Or.inl ⟨by rfl,?_⟩) HS ?_
   ·intro w' hS
    obtain⟨s0,s1⟩:=hS
    go_simp
   simp only [Act.put,List.getElem_toArray,List.getElem_cons_zero,List.getElem_cons_succ,List.setIfInBounds_toArray,List.set_cons_zero,List.set_cons_succ]
   refine wpAnyH_take (i:=4) (v:=.pointer (some ⟨gr,j,none⟩)) rfl (by kernel_rfl) (by kernel_rfl) (by kernel_rfl) (fun _ _ _ h=>h) (Or.inl ⟨by rfl,?_⟩) HS ?_
   ·intro w' hS
    obtain⟨s0,s1⟩:=hS
    go_simp
   simp only [Act.put,List.getElem_toArray,List.getElem_cons_zero,List.getElem_cons_succ,List.setIfInBounds_toArray,List.set_cons_zero,List.set_cons_succ]
   refine wpAnyH_take (i:=5) (v:=.int .u8 X) rfl (by kernel_rfl) (by kernel_rfl) (by kernel_rfl) (fun _ _ _ h=>h) (Or.inl ⟨by rfl,?_⟩) HS ?_
   ·intro w' hS
    obtain⟨s0,s1⟩:=hS
    go_simp
   simp only [Act.put,List.getElem_toArray,List.getElem_cons_zero,List.getElem_cons_succ,List.setIfInBounds_toArray,List.set_cons_zero,List.set_cons_succ]
   refine wpAnyH_take (i:=6) (v:=fnV 111) rfl (by kernel_rfl) (by kernel_rfl) (by kernel_rfl) (fun _ _ _ h=>h) (Or.inl ⟨by rfl,?_⟩) HS ?_
   ·intro w' hS
    obtain⟨s0,s1⟩:=hS
    go_simp
   simp only [Act.put,List.getElem_toArray,List.getElem_cons_zero,List.getElem_cons_succ,List.setIfInBounds_toArray,List.set_cons_zero,List.set_cons_succ]
   refine wpAnyH_take (i:=7) (v:=.slice (some ⟨gr,0,none⟩) n cr) rfl (by kernel_rfl) (by kernel_rfl) (by kernel_rfl) (fun _ _ _ h=>h) (Or.inl ⟨by rfl,?_⟩) HS ?_
   ·intro w' hS
    obtain⟨s0,s1⟩:=hS
    go_simp
   simp only [Act.put,List.getElem_toArray,List.getElem_cons_zero,List.getElem_cons_succ,List.setIfInBounds_toArray,List.set_cons_zero,List.set_cons_succ]
   refine wpAnyH_take (i:=8) (v:=.slice (some ⟨ga,0,none⟩) n ca) rfl (by kernel_rfl) (by kernel_rfl) (by kernel_rfl) (fun _ _ _ h=>h) (Or.inl ⟨by rfl,?_⟩) HS ?_
   ·intro w' hS
    obtain⟨s0,s1⟩:=hS
    go_simp
   simp only [Act.put,List.getElem_toArray,List.getElem_cons_zero,List.getElem_cons_succ,List.setIfInBounds_toArray,List.set_cons_zero,List.set_cons_succ]
   refine wpAnyH_take (i:=9) (v:=.int .i64 (j:Int)) rfl (by kernel_rfl) (by kernel_rfl) (by kernel_rfl) (fun _ _ _ h=>h) (Or.inl ⟨by rfl,?_⟩) HS ?_
   ·intro w' hS
    obtain⟨s0,s1⟩:=hS
    go_simp
   simp only [Act.put,List.getElem_toArray,List.getElem_cons_zero,List.getElem_cons_succ,List.setIfInBounds_toArray,List.set_cons_zero,List.set_cons_succ]
   refine wpAnyH_take (i:=10) (v:=.int .i64 (unit:Int)) rfl (by kernel_rfl) (by kernel_rfl) (by kernel_rfl) (fun _ _ _ h=>h) (Or.inl ⟨by rfl,?_⟩) HS ?_
   ·intro w' hS
    obtain⟨s0,s1⟩:=hS
    go_simp
   simp only [Act.put,List.getElem_toArray,List.getElem_cons_zero,List.getElem_cons_succ,List.setIfInBounds_toArray,List.set_cons_zero,List.set_cons_succ]
   refine wpAnyH_ready (rs:=[11]) (by kernel_rfl) (by simp) ?_
   refine AllReadyH.cons rfl (fun K hK=>?_) AllReadyH.nil
   refine if_wanted (wanted_none rfl) ?_
   simp only [List.getElem_toArray,List.getElem_cons_zero,List.getElem_cons_succ]
   go_simp
   refine hbes.mono ?_
   rintro e w4 ⟨rfl,hB4⟩
   have HB4:Hid (Below wr.heap.size wr w4):=⟨hB4.1,hB4.2,hB4.3,hB4.4,hB4.5⟩
   have cb4:w4.cell? ⟨gr,j,none⟩=some (.int .u8 X):=((bcell HB4.out).1 _ _ hbl).trans cb'
   have hb4:gr < w4.heap.size:=Nat.lt_of_lt_of_le hbl HB4.out.size
   clear hB4 hbes HS
   refine hK.out _ _ ⟨cb4,hb4⟩ (fun HS=>?_)
   clear hK K
   refine wpAnyH_ready (rs:=[12]) (by kernel_rfl) (by simp) ?_
   refine AllReadyH.cons rfl (fun K hK=>?_) AllReadyH.nil
   refine if_wanted (wanted_none rfl) ?_
   simp only [List.getElem_toArray,List.getElem_cons_zero,List.getElem_cons_succ]
   go_simp
   refine (hkd _).mono ?_
   rintro e w5 ⟨rfl,hB5⟩
   have HB5:Hid (Below wr.heap.size wr w5):=bnext HB4.out hB5
   have cb5:w5.cell? ⟨gr,j,none⟩=some (.int .u8 X):=((bcell HB5.out).1 _ _ hbl).trans cb'
   have hb5:gr < w5.heap.size:=Nat.lt_of_lt_of_le hbl HB5.out.size
   clear hB5 hkd HB4 HS cb4 hb4
   refine hK.out _ _ ⟨cb5,hb5⟩ (fun HS=>?_)
   clear hK K
   refine wpAnyH_take (i:=13) (v:=.int .u8 Y) rfl (by kernel_rfl) (by kernel_rfl) (by kernel_rfl) (fun _ _ _ h=>h) (Or.inl ⟨by rfl,?_⟩) HS ?_
   ·intro w' hS
    obtain⟨s0,s1⟩:=hS
    go_simp
   simp only [Act.put,List.getElem_toArray,List.getElem_cons_zero,List.getElem_cons_succ,List.setIfInBounds_toArray,List.set_cons_zero,List.set_cons_succ]
   refine wpAnyH_take (i:=14) (v:=.int .u8 Z) rfl (by kernel_rfl) (by kernel_rfl) (by kernel_rfl) (fun _ _ _ h=>h) (Or.inl ⟨by rfl,?_⟩) HS ?_
   ·intro w' hS
    obtain⟨s0,s1⟩:=hS
    go_simp
   simp only [Act.put,List.getElem_toArray,List.getElem_cons_zero,List.getElem_cons_succ,List.setIfInBounds_toArray,List.set_cons_zero,List.set_cons_succ]
   refine wpAnyH_take (i:=15) (v:=.pointer (some ⟨G,off+j,none⟩)) rfl (by kernel_rfl) (by kernel_rfl) (by kernel_rfl) (fun _ _ _ h=>h) (Or.inl ⟨by rfl,?_⟩) HS ?_
   ·intro w' hS
    obtain⟨s0,s1⟩:=hS
    go_simp
   simp only [Act.put,List.getElem_toArray,List.getElem_cons_zero,List.getElem_cons_succ,List.setIfInBounds_toArray,List.set_cons_zero,List.set_cons_succ]
   obtain⟨g1,g2,g3⟩:=HC.out w5 HB5.out
   refine wpAnyH_ready (rs:=[16]) (by kernel_rfl) (by simp) ?_
   refine AllReadyH.cons rfl (fun K hK=>?_) AllReadyH.nil
   refine if_wanted (wanted_none rfl) ?_
   simp only [List.getElem_toArray,List.getElem_cons_zero,List.getElem_cons_succ]
   go_simp
   refine hK.out _ _ ⟨by rw [World.cell?_setCell_other _ _ _ _ (by intro e; exact hne1 (congrArg Addr.block e).symm)]; exact cb5,by simp; exact hb5⟩ (fun _=>?_)
   clear hK K
   refine wpAnyH_done (by kernel_rfl) ?_ _
   go_wp2_with fail
   go_roundw
   case rel=>exact⟨j+1,by omega,by go_num,fltI_next hS.out hlt hN HB5.out HN.out⟩
   case measure=>simp [intOf]; omega
  ·obtain rfl:j=n:=by omega
   have dl:decide ((j:Int) < (j:Int))=false:=decide_eq_false (by omega)
   go_wp2_with fail
   go_end0
   exact⟨rfl,hS.out⟩
set_option maxRecDepth 100000 in
set_option maxHeartbeats 3200000 in
theorem filterInto_4 (r u h0:Nat→Int) (unit n base G N cb off cs gr cr ga ca:Nat) (w:World) (hu:1≤unit∧unit≤8) (hn:n≤200) (hr:∀ i,0≤r i∧r i < 256) (hub:∀ i,0≤u i∧u i < 256) (hO:BFn w base G N cb h0) (hN:off+n≤N) (hR:BAt w gr n r) (hA:BAt w ga n u) (hne1:gr≠G) (hne2:ga≠G):
  Calls Tryd.prog 86 #[.slice (some ⟨G,off,none⟩) n cs,.int .i64 4,.slice (some ⟨gr,0,none⟩) n cr,.slice (some ⟨ga,0,none⟩) n ca,.int .i64 (unit:Int)] w fun e w'=>e=.returned (.tuple #[])∧FltI w w' base G N cb off n h0 (filtB 4 r u unit) n:=by
 have HR8:=hid_of hr
 have HU8:=hid_of hub
 have HRR:=hid_of hR
 clear hR
 have HAA:=hid_of hA
 clear hr hub hA
 go_enter Tryd.func86,Tryd.ntmps86
 go_wp2_with fail
 refine (kinds_any _).mono ?_
 rintro e w1 ⟨rfl,hm,hB1⟩
 have lk:(Instr.lookup 109 (.map (some w.heap.size)) (.int .i64 4) false).run Tryd.prog w1=.ok (fnV 112) w1:=kind_take hm 4 (by omega)
 have H0:Hid (FltI w w1 base G N cb off n h0 (filtB 4 r u unit) 0):=⟨h0,hO.called hB1,fun i hi=>absurd hi (Nat.not_lt_zero i),fun _ _=>rfl,But.of_below hB1⟩
 clear hm hB1 hO
 go_wp2_with fail
 go_loopw [17] (fun i w'=>∃ j:Nat,j≤n∧i=.int .i64 (j:Int)∧Hid (FltI w w' base G N cb off n h0 (filtB 4 r u unit) j)) (fun i _=>n - (intOf i).toNat)
 case atStart=>exact⟨0,Nat.zero_le _,rfl,H0⟩
 case round=>
  clear H0 lk
  obtain⟨j,hj,rfl,hS⟩:=hrel
  by_cases hlt:j < n
  ·obtain⟨h,hO,hh,ho,hBB⟩:=hS.out
   have hRr:=HRR.out.but hBB hne1
   have hAr:=HAA.out.but hBB hne2
   have hcell:=hO.cell (off+j) (by omega)
   have hfree:=hO.free (off+j) (by omega)
   have gl:G < wr.heap.size:=Own.lt hO
   have HC:Hid (∀ w',Below wr.heap.size wr w'→w'.cell? ⟨G,off+j,none⟩=some (.int .u8 (h (off+j)))∧w'.frozen? ⟨G,off+j,none⟩=false∧G < w'.heap.size):=fun w' hb=>⟨((bcell hb).1 _ _ gl).trans hcell,((bcell hb).2 _ _ gl).trans hfree,Nat.lt_of_lt_of_le gl hb.size⟩
   clear hh ho hBB hO hcell hfree
   obtain⟨hbl,hcr⟩:=hRr
   have cb':=hcr j hlt
   have hrow:unit≤j→∃ g,(some ⟨gr,0,none⟩:Option Addr)=some ⟨g,0,none⟩∧j - unit < n∧g < wr.drew.heap.size∧wr.drew.cell? ⟨g,j - unit,none⟩=some (.int .u8 (r (j - unit))):=fun _=>⟨_,rfl,by omega,hbl,hcr (j - unit) (by omega)⟩
   clear hcr
   have hbes:=beside_any (some ⟨gr,0,none⟩) n cr r u ga n ca unit j wr.drew hu hlt hn HR8.out HU8.out hAr.drew hrow
   obtain⟨X,hX⟩:∃ X,X=r j:=⟨_,rfl⟩
   have hX0:0≤X∧X < 256:=by rw [hX]; exact HR8.out j
   rw[← hX] at cb'
   clear hrow hAr
   obtain⟨L,hL⟩:∃ L,L=aheadB r unit j:=⟨_,rfl⟩
   obtain⟨U,hU⟩:∃ U,U=u j:=⟨_,rfl⟩
   obtain⟨C,hC⟩:∃ C,C=aheadB u unit j:=⟨_,rfl⟩
   rw[← hL,← hU,← hC] at hbes
   have hL0:0≤L∧L < 256:=by rw [hL]; exact ahead_byte HR8.out _ _
   have hU0:0≤U∧U < 256:=by rw [hU]; exact HU8.out j
   have hC0:0≤C∧C < 256:=by rw [hC]; exact ahead_byte HU8.out _ _
   have hkd:=fun W=>nearest_any L U C W hL0 hU0 hC0
   have HY:Hid (told 4 L U C=says 4 r u unit j):=by
    show _=_
    unfold says
    rw[hL,hU,hC]
   obtain⟨Y,hY⟩:∃ Y,Y=told 4 L U C:=⟨_,rfl⟩
   have hY0:0≤Y∧Y < 256:=by rw [hY]; exact told_byte 4 hL0 hU0 hC0
   rw[← hY] at hkd HY
   obtain⟨Z,hZ⟩:∃ Z,Z=(X+256 - Y) % 256:=⟨_,rfl⟩
   have hZ0:0≤Z∧Z < 256:=by omega
   have u8w:IntKind.u8.wrap (X - Y)=Z:=by show (X - Y) % 256=Z; omega
   have HN:Hid (Z=filtB 4 r u unit j):=by
    show Z=_
    unfold filtB
    rw[← HY.out,← hX,hZ]
   have u8y:IntKind.u8.wrap Y=Y:=by show Y % 256=Y; omega
   have dl:decide ((j:Int) < (n:Int))=true:=decide_eq_true (by omega)
   have x0:(0:Int)≤(j:Int):=by omega
   have x1:(j:Int) < (n:Int):=by omega
   clear hX hY hZ hL hU hC
   go_wp2_with fail
   refine wp_region_held (S:=fun u=>u.cell? ⟨gr,j,none⟩=some (.int .u8 X)∧gr < u.heap.size) (by kernel_rfl) ?_
   show wpAnyH _ _ _ _ _ _ _ _ wr.drew
   have HS:wr.drew.cell? ⟨gr,j,none⟩=some (.int .u8 X)∧gr < wr.drew.heap.size:=⟨cb',hbl⟩
   refine wpAnyH_take (i:=0) (v:=.slice (some ⟨G,off,none⟩) n cs) rfl (by kernel_rfl) (by kernel_rfl) (by kernel_rfl) (fun _ _ _ h=>h) (Or.inl ⟨by rfl,?_⟩) HS ?_
   ·intro w' hS
    obtain⟨s0,s1⟩:=hS
    go_simp
   simp only [Act.put,List.getElem_toArray,List.getElem_cons_zero,List.setIfInBounds_toArray,List.set_cons_zero,List.set_cons_succ]
   refine wpAnyH_take (i:=1) (v:=.int .i64 (j:Int)) rfl (by kernel_rfl) (by kernel_rfl) (by kernel_rfl) (fun _ _ _ h=>h) (Or.inl ⟨by rfl,?_⟩) HS ?_
   ·intro w' hS
    obtain⟨s0,s1⟩:=hS
    go_simp
   simp only [Act.put,List.getElem_toArray,List.getElem_cons_zero,List.getElem_cons_succ,List.setIfInBounds_toArray,List.set_cons_zero,List.set_cons_succ]
   refine wpAnyH_take (i:=2) (v:=.slice (some ⟨gr,0,none⟩) n cr) rfl (by kernel_rfl) (by kernel_rfl) (by kernel_rfl) (fun _ _ _ h=>h) (Or.inl ⟨by rfl,?_⟩) HS ?_
   ·intro w' hS
    obtain⟨s0,s1⟩:=hS
    go_simp
   simp only [Act.put,List.getElem_toArray,List.getElem_cons_zero,List.getElem_cons_succ,List.setIfInBounds_toArray,List.set_cons_zero,List.set_cons_succ]
   refine wpAnyH_take (i:=3) (v:=.int .i64 (j:Int)) rfl (by kernel_rfl) (by kernel_rfl) (by kernel_rfl) (fun _ _ _ h=>h) (Or.inl ⟨by rfl,?_⟩) HS ?_
   ·intro w' hS
    obtain⟨s0,s1⟩:=hS
    go_simp
   simp only [Act.put,List.getElem_toArray,List.getElem_cons_zero,List.getElem_cons_succ,List.setIfInBounds_toArray,List.set_cons_zero,List.set_cons_succ]
   refine wpAnyH_take (i:=4) (v:=.pointer (some ⟨gr,j,none⟩)) rfl (by kernel_rfl) (by kernel_rfl) (by kernel_rfl) (fun _ _ _ h=>h) (Or.inl ⟨by rfl,?_⟩) HS ?_
   ·intro w' hS
    obtain⟨s0,s1⟩:=hS
    go_simp
   simp only [Act.put,List.getElem_toArray,List.getElem_cons_zero,List.getElem_cons_succ,List.setIfInBounds_toArray,List.set_cons_zero,List.set_cons_succ]
   refine wpAnyH_take (i:=5) (v:=.int .u8 X) rfl (by kernel_rfl) (by kernel_rfl) (by kernel_rfl) (fun _ _ _ h=>h) (Or.inl ⟨by rfl,?_⟩) HS ?_
   ·intro w' hS
    obtain⟨s0,s1⟩:=hS
    go_simp
   simp only [Act.put,List.getElem_toArray,List.getElem_cons_zero,List.getElem_cons_succ,List.setIfInBounds_toArray,List.set_cons_zero,List.set_cons_succ]
   refine wpAnyH_take (i:=6) (v:=fnV 112) rfl (by kernel_rfl) (by kernel_rfl) (by kernel_rfl) (fun _ _ _ h=>h) (Or.inl ⟨by rfl,?_⟩) HS ?_
   ·intro w' hS
    obtain⟨s0,s1⟩:=hS
    go_simp
   simp only [Act.put,List.getElem_toArray,List.getElem_cons_zero,List.getElem_cons_succ,List.setIfInBounds_toArray,List.set_cons_zero,List.set_cons_succ]
   refine wpAnyH_take (i:=7) (v:=.slice (some ⟨gr,0,none⟩) n cr) rfl (by kernel_rfl) (by kernel_rfl) (by kernel_rfl) (fun _ _ _ h=>h) (Or.inl ⟨by rfl,?_⟩) HS ?_
   ·intro w' hS
    obtain⟨s0,s1⟩:=hS
    go_simp
   simp only [Act.put,List.getElem_toArray,List.getElem_cons_zero,List.getElem_cons_succ,List.setIfInBounds_toArray,List.set_cons_zero,List.set_cons_succ]
   refine wpAnyH_take (i:=8) (v:=.slice (some ⟨ga,0,none⟩) n ca) rfl (by kernel_rfl) (by kernel_rfl) (by kernel_rfl) (fun _ _ _ h=>h) (Or.inl ⟨by rfl,?_⟩) HS ?_
   ·intro w' hS
    obtain⟨s0,s1⟩:=hS
    go_simp
   simp only [Act.put,List.getElem_toArray,List.getElem_cons_zero,List.getElem_cons_succ,List.setIfInBounds_toArray,List.set_cons_zero,List.set_cons_succ]
   refine wpAnyH_take (i:=9) (v:=.int .i64 (j:Int)) rfl (by kernel_rfl) (by kernel_rfl) (by kernel_rfl) (fun _ _ _ h=>h) (Or.inl ⟨by rfl,?_⟩) HS ?_
   ·intro w' hS
    obtain⟨s0,s1⟩:=hS
    go_simp
   simp only [Act.put,List.getElem_toArray,List.getElem_cons_zero,List.getElem_cons_succ,List.setIfInBounds_toArray,List.set_cons_zero,List.set_cons_succ]
   refine wpAnyH_take (i:=10) (v:=.int .i64 (unit:Int)) rfl (by kernel_rfl) (by kernel_rfl) (by kernel_rfl) (fun _ _ _ h=>h) (Or.inl ⟨by rfl,?_⟩) HS ?_
   ·intro w' hS
    obtain⟨s0,s1⟩:=hS
    go_simp
   simp only [Act.put,List.getElem_toArray,List.getElem_cons_zero,List.getElem_cons_succ,List.setIfInBounds_toArray,List.set_cons_zero,List.set_cons_succ]
   refine wpAnyH_ready (rs:=[11]) (by kernel_rfl) (by simp) ?_
   refine AllReadyH.cons rfl (fun K hK=>?_) AllReadyH.nil
   refine if_wanted (wanted_none rfl) ?_
   simp only [List.getElem_toArray,List.getElem_cons_zero,List.getElem_cons_succ]
   go_simp
   refine hbes.mono ?_
   rintro e w4 ⟨rfl,hB4⟩
   have HB4:Hid (Below wr.heap.size wr w4):=⟨hB4.1,hB4.2,hB4.3,hB4.4,hB4.5⟩
   have cb4:w4.cell? ⟨gr,j,none⟩=some (.int .u8 X):=((bcell HB4.out).1 _ _ hbl).trans cb'
   have hb4:gr < w4.heap.size:=Nat.lt_of_lt_of_le hbl HB4.out.size
   clear hB4 hbes HS
   refine hK.out _ _ ⟨cb4,hb4⟩ (fun HS=>?_)
   clear hK K
   refine wpAnyH_ready (rs:=[12]) (by kernel_rfl) (by simp) ?_
   refine AllReadyH.cons rfl (fun K hK=>?_) AllReadyH.nil
   refine if_wanted (wanted_none rfl) ?_
   simp only [List.getElem_toArray,List.getElem_cons_zero,List.getElem_cons_succ]
   go_simp
   refine (hkd _).mono ?_
   rintro e w5 ⟨rfl,hB5⟩
   have HB5:Hid (Below wr.heap.size wr w5):=bnext HB4.out hB5
   have cb5:w5.cell? ⟨gr,j,none⟩=some (.int .u8 X):=((bcell HB5.out).1 _ _ hbl).trans cb'
   have hb5:gr < w5.heap.size:=Nat.lt_of_lt_of_le hbl HB5.out.size
   clear hB5 hkd HB4 HS cb4 hb4
   refine hK.out _ _ ⟨cb5,hb5⟩ (fun HS=>?_)
   clear hK K
   refine wpAnyH_take (i:=13) (v:=.int .u8 Y) rfl (by kernel_rfl) (by kernel_rfl) (by kernel_rfl) (fun _ _ _ h=>h) (Or.inl ⟨by rfl,?_⟩) HS ?_
   ·intro w' hS
    obtain⟨s0,s1⟩:=hS
    go_simp
   simp only [Act.put,List.getElem_toArray,List.getElem_cons_zero,List.getElem_cons_succ,List.setIfInBounds_toArray,List.set_cons_zero,List.set_cons_succ]
   refine wpAnyH_take (i:=14) (v:=.int .u8 Z) rfl (by kernel_rfl) (by kernel_rfl) (by kernel_rfl) (fun _ _ _ h=>h) (Or.inl ⟨by rfl,?_⟩) HS ?_
   ·intro w' hS
    obtain⟨s0,s1⟩:=hS
    go_simp
   simp only [Act.put,List.getElem_toArray,List.getElem_cons_zero,List.getElem_cons_succ,List.setIfInBounds_toArray,List.set_cons_zero,List.set_cons_succ]
   refine wpAnyH_take (i:=15) (v:=.pointer (some ⟨G,off+j,none⟩)) rfl (by kernel_rfl) (by kernel_rfl) (by kernel_rfl) (fun _ _ _ h=>h) (Or.inl ⟨by rfl,?_⟩) HS ?_
   ·intro w' hS
    obtain⟨s0,s1⟩:=hS
    go_simp
   simp only [Act.put,List.getElem_toArray,List.getElem_cons_zero,List.getElem_cons_succ,List.setIfInBounds_toArray,List.set_cons_zero,List.set_cons_succ]
   obtain⟨g1,g2,g3⟩:=HC.out w5 HB5.out
   refine wpAnyH_ready (rs:=[16]) (by kernel_rfl) (by simp) ?_
   refine AllReadyH.cons rfl (fun K hK=>?_) AllReadyH.nil
   refine if_wanted (wanted_none rfl) ?_
   simp only [List.getElem_toArray,List.getElem_cons_zero,List.getElem_cons_succ]
   go_simp
   refine hK.out _ _ ⟨by rw [World.cell?_setCell_other _ _ _ _ (by intro e; exact hne1 (congrArg Addr.block e).symm)]; exact cb5,by simp; exact hb5⟩ (fun _=>?_)
   clear hK K
   refine wpAnyH_done (by kernel_rfl) ?_ _
   go_wp2_with fail
   go_roundw
   case rel=>exact⟨j+1,by omega,by go_num,fltI_next hS.out hlt hN HB5.out HN.out⟩
   case measure=>simp [intOf]; omega
  ·obtain rfl:j=n:=by omega
   have dl:decide ((j:Int) < (j:Int))=false:=decide_eq_false (by omega)
   go_wp2_with fail
   go_end0
   exact⟨rfl,hS.out⟩
theorem filterInto_any (k:Int) (hk:0≤k∧k≤4) (r u h0:Nat→Int) (unit n base G N cb off cs gr cr ga ca:Nat) (w:World) (hu:1≤unit∧unit≤8) (hn:n≤200) (hr:∀ i,0≤r i∧r i < 256) (hub:∀ i,0≤u i∧u i < 256) (hO:BFn w base G N cb h0) (hN:off+n≤N) (hR:BAt w gr n r) (hA:BAt w ga n u) (hne1:gr≠G) (hne2:ga≠G):
  Calls Tryd.prog 86 #[.slice (some ⟨G,off,none⟩) n cs,.int .i64 k,.slice (some ⟨gr,0,none⟩) n cr,.slice (some ⟨ga,0,none⟩) n ca,.int .i64 (unit:Int)] w fun e w'=>e=.returned (.tuple #[])∧FltI w w' base G N cb off n h0 (filtB k r u unit) n:=by
 obtain rfl | rfl | rfl | rfl | rfl:k=0∨k=1∨k=2∨k=3∨k=4:=by omega
 ·exact filterInto_0 r u h0 unit n base G N cb off cs gr cr ga ca w hu hn hr hub hO hN hR hA hne1 hne2
 ·exact filterInto_1 r u h0 unit n base G N cb off cs gr cr ga ca w hu hn hr hub hO hN hR hA hne1 hne2
 ·exact filterInto_2 r u h0 unit n base G N cb off cs gr cr ga ca w hu hn hr hub hO hN hR hA hne1 hne2
 ·exact filterInto_3 r u h0 unit n base G N cb off cs gr cr ga ca w hu hn hr hub hO hN hR hA hne1 hne2
 ·exact filterInto_4 r u h0 unit n base G N cb off cs gr cr ga ca w hu hn hr hub hO hN hR hA hne1 hne2
end Go.Proofs.YtcbbcadfolgioaaDoor
