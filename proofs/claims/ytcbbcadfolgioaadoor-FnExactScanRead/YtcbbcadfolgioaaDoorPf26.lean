/-
  Texts of the proof, put together.
-/
import Derived.Test.YtcbbcadfolgioaaDoorPf24
namespace Go.Proofs.YtcbbcadfolgioaaDoor
open Go.RowKit Go.Joins TakeMath FiltMath
def UnfI (w w':World) (base G n cb:Nat) (r:Nat→Int) (L:List Int) (j:Nat):Prop:=∃ h,BFn w' base G n cb h∧(∀ i,i < j→h i=L.getD i 0)∧(∀ i,j≤i→h i=r i)∧L.length=j∧But G w w'
theorem unfI_next {w wr w':World} {base G n cb:Nat} {r:Nat→Int} {L:List Int} {j:Nat} {x:Int} (hS:UnfI w wr base G n cb r L j) (hj:j < n) (hb:Below wr.heap.size wr w'):UnfI w (w'.setCell ⟨G,j,none⟩ (.int .u8 x)) base G n cb r (L ++ [x]) (j+1):=by
 obtain⟨h,hO,hh,ho,hl,hB⟩:=hS
 refine⟨upd h j x,(hO.called hb).set j hj x,fun i hi=>?_,fun i hi=>?_,by rw [List.length_append,hl]; rfl,(hB.next hb).set j _⟩
 ·unfold upd
  by_cases e:i=j
  ·rw[if_pos e,e,← hl]
   simp
  ·rw[if_neg e,hh i (by omega),List.getD_eq_getElem?_getD,List.getD_eq_getElem?_getD,List.getElem?_append_left (by omega)]
 ·unfold upd
  rw[if_neg (by omega)]
  exact ho i (by omega)
set_option maxRecDepth 100000 in
set_option maxHeartbeats 3200000 in
theorem unfilter_0 (r u:Nat→Int) (unit n base G cb ga ca:Nat) (w:World) (hu:1≤unit∧unit≤8) (hn:n≤200) (hr:∀ i,0≤r i∧r i < 256) (hub:∀ i,0≤u i∧u i < 256) (hO:BFn w base G n cb r) (hA:BAt w ga n u) (hne2:ga≠G):
  Calls Tryd.prog 88 #[.int .i64 0,.slice (some ⟨G,0,none⟩) n cb,.slice (some ⟨ga,0,none⟩) n ca,.int .i64 (unit:Int)] w fun e w'=>e=.returned (.tuple #[])∧UnfI w w' base G n cb r (unfL 0 r u unit n) n:=by
 have HR8:=hid_of hr
 have HU8:=hid_of hub
 have HAA:=hid_of hA
 clear hr hub hA
 go_enter Tryd.func88,Tryd.ntmps88
 go_wp2_with fail
 refine (kinds_any _).mono ?_
 rintro e w1 ⟨rfl,hm,hB1⟩
 have lk:(Instr.lookup 109 (.map (some w.heap.size)) (.int .i64 0) false).run Tryd.prog w1=.ok (fnV 108) w1:=kind_take hm 0 (by omega)
 have H0:Hid (UnfI w w1 base G n cb r (unfL 0 r u unit 0) 0):=⟨r,hO.called hB1,fun i hi=>absurd hi (Nat.not_lt_zero i),fun _ _=>rfl,rfl,But.of_below hB1⟩
 clear hm hB1 hO
 go_wp2_with fail
 go_loopw [15] (fun i w'=>∃ j:Nat,j≤n∧i=.int .i64 (j:Int)∧Hid (UnfI w w' base G n cb r (unfL 0 r u unit j) j)) (fun i _=>n - (intOf i).toNat)
 case atStart=>exact⟨0,Nat.zero_le _,rfl,H0⟩
 case round=>
  clear H0 lk
  obtain⟨j,hj,rfl,hS⟩:=hrel
  by_cases hlt:j < n
  ·obtain⟨h,hO,hh,ho,hl,hBB⟩:=hS.out
   have hAr:=HAA.out.but hBB hne2
   have hcell:=hO.cell j hlt
   have hfree:=hO.free j hlt
   rw[ho j (Nat.le_refl _)] at hcell
   have gl:G < wr.heap.size:=Own.lt hO
   have hrow:unit≤j→∃ g,(some ⟨G,0,none⟩:Option Addr)=some ⟨g,0,none⟩∧j - unit < n∧g < wr.drew.heap.size∧wr.drew.cell? ⟨g,j - unit,none⟩=some (.int .u8 ((fun i=>(unfL 0 r u unit j).getD i 0) (j - unit))):=fun hq=>by
    refine⟨_,rfl,by omega,gl,?_⟩
    show _=some (Value.int .u8 ((unfL 0 r u unit j).getD (j - unit) 0))
    rw[← hh (j - unit) (by omega)]
    exact hO.cell (j - unit) (by omega)
   have HC:Hid (∀ w',Below wr.heap.size wr w'→w'.cell? ⟨G,j,none⟩=some (.int .u8 (r j))∧w'.frozen? ⟨G,j,none⟩=false∧G < w'.heap.size):=fun w' hb=>⟨((bcell hb).1 _ _ gl).trans hcell,((bcell hb).2 _ _ gl).trans hfree,Nat.lt_of_lt_of_le gl hb.size⟩
   clear hh ho hBB hO hcell hfree hl
   have hbes:=beside_any (some ⟨G,0,none⟩) n cb (fun i=>(unfL 0 r u unit j).getD i 0) u ga n ca unit j wr.drew hu hlt hn (fun i=>getD_byte13 (unfL_byte _ _ _ _ _) i) HU8.out hAr.drew hrow
   obtain⟨X,hX⟩:∃ X,X=r j:=⟨_,rfl⟩
   have hX0:0≤X∧X < 256:=by rw [hX]; exact HR8.out j
   rw[← hX] at HC
   clear hrow hAr
   obtain⟨L,hL⟩:∃ L,L=aheadB (fun i=>(unfL 0 r u unit j).getD i 0) unit j:=⟨_,rfl⟩
   obtain⟨U,hU⟩:∃ U,U=u j:=⟨_,rfl⟩
   obtain⟨C,hC⟩:∃ C,C=aheadB u unit j:=⟨_,rfl⟩
   rw[← hL,← hU,← hC] at hbes
   have hL0:0≤L∧L < 256:=by rw [hL]; exact ahead_byte (fun i=>getD_byte13 (unfL_byte _ _ _ _ _) i) _ _
   have hU0:0≤U∧U < 256:=by rw [hU]; exact HU8.out j
   have hC0:0≤C∧C < 256:=by rw [hC]; exact ahead_byte HU8.out _ _
   have hkd:=fun W=>nothing_any L U C W
   have HY:Hid (told 0 L U C=says 0 (fun i=>(unfL 0 r u unit j).getD i 0) u unit j):=by
    show _=_
    unfold says
    rw[hL,hU,hC]
   obtain⟨Y,hY⟩:∃ Y,Y=told 0 L U C:=⟨_,rfl⟩
   have hY0:0≤Y∧Y < 256:=by rw [hY]; exact told_byte 0 hL0 hU0 hC0
   rw[← hY] at hkd HY
   obtain⟨Z,hZ⟩:∃ Z,Z=(X+Y) % 256:=⟨_,rfl⟩
   have hZ0:0≤Z∧Z < 256:=by omega
   have u8w:IntKind.u8.wrap (X+Y)=Z:=by show (X+Y) % 256=Z; omega
   have HN:Hid (unfL 0 r u unit (j+1)=unfL 0 r u unit j ++ [Z]):=by
    show _=_
    rw[unfL_next,← HY.out,hZ,hX]
   have u8y:IntKind.u8.wrap Y=Y:=by show Y % 256=Y; omega
   have dl:decide ((j:Int) < (n:Int))=true:=decide_eq_true (by omega)
   have x0:(0:Int)≤(j:Int):=by omega
   have x1:(j:Int) < (n:Int):=by omega
   clear hX hY hZ hL hU hC
   go_wp2_with fail
   refine wp_region_held (S:=fun _=>True) (by kernel_rfl) ?_
   show wpAnyH _ _ _ _ _ _ _ _ wr.drew
   refine wpAnyH_take (i:=0) (v:=.slice (some ⟨G,0,none⟩) n cb) rfl (by kernel_rfl) (by kernel_rfl) (by kernel_rfl) (fun _ _ _ h=>h) (Or.inl ⟨by rfl,?_⟩) trivial ?_
   ·intro w' _
    go_simp
   simp only [Act.put,List.getElem_toArray,List.getElem_cons_zero,List.setIfInBounds_toArray,List.set_cons_zero,List.set_cons_succ]
   refine wpAnyH_take (i:=1) (v:=.int .i64 (j:Int)) rfl (by kernel_rfl) (by kernel_rfl) (by kernel_rfl) (fun _ _ _ h=>h) (Or.inl ⟨by rfl,?_⟩) trivial ?_
   ·intro w' _
    go_simp
   simp only [Act.put,List.getElem_toArray,List.getElem_cons_zero,List.getElem_cons_succ,List.setIfInBounds_toArray,List.set_cons_zero,List.set_cons_succ]
   refine wpAnyH_take (i:=2) (v:=.pointer (some ⟨G,j,none⟩)) rfl (by kernel_rfl) (by kernel_rfl) (by kernel_rfl) (fun _ _ _ h=>h) (Or.inl ⟨by rfl,?_⟩) trivial ?_
   ·intro w' _
    go_simp
   simp only [Act.put,List.getElem_toArray,List.getElem_cons_zero,List.getElem_cons_succ,List.setIfInBounds_toArray,List.set_cons_zero,List.set_cons_succ]
   refine wpAnyH_take (i:=4) (v:=fnV 108) rfl (by kernel_rfl) (by kernel_rfl) (by kernel_rfl) (fun _ _ _ h=>h) (Or.inl ⟨by rfl,?_⟩) trivial ?_
   ·intro w' _
    go_simp
   simp only [Act.put,List.getElem_toArray,List.getElem_cons_zero,List.getElem_cons_succ,List.setIfInBounds_toArray,List.set_cons_zero,List.set_cons_succ]
   refine wpAnyH_take (i:=5) (v:=.slice (some ⟨G,0,none⟩) n cb) rfl (by kernel_rfl) (by kernel_rfl) (by kernel_rfl) (fun _ _ _ h=>h) (Or.inl ⟨by rfl,?_⟩) trivial ?_
   ·intro w' _
    go_simp
   simp only [Act.put,List.getElem_toArray,List.getElem_cons_zero,List.getElem_cons_succ,List.setIfInBounds_toArray,List.set_cons_zero,List.set_cons_succ]
   refine wpAnyH_take (i:=6) (v:=.slice (some ⟨ga,0,none⟩) n ca) rfl (by kernel_rfl) (by kernel_rfl) (by kernel_rfl) (fun _ _ _ h=>h) (Or.inl ⟨by rfl,?_⟩) trivial ?_
   ·intro w' _
    go_simp
   simp only [Act.put,List.getElem_toArray,List.getElem_cons_zero,List.getElem_cons_succ,List.setIfInBounds_toArray,List.set_cons_zero,List.set_cons_succ]
   refine wpAnyH_take (i:=7) (v:=.int .i64 (j:Int)) rfl (by kernel_rfl) (by kernel_rfl) (by kernel_rfl) (fun _ _ _ h=>h) (Or.inl ⟨by rfl,?_⟩) trivial ?_
   ·intro w' _
    go_simp
   simp only [Act.put,List.getElem_toArray,List.getElem_cons_zero,List.getElem_cons_succ,List.setIfInBounds_toArray,List.set_cons_zero,List.set_cons_succ]
   refine wpAnyH_take (i:=8) (v:=.int .i64 (unit:Int)) rfl (by kernel_rfl) (by kernel_rfl) (by kernel_rfl) (fun _ _ _ h=>h) (Or.inl ⟨by rfl,?_⟩) trivial ?_
   ·intro w' _
    go_simp
   simp only [Act.put,List.getElem_toArray,List.getElem_cons_zero,List.getElem_cons_succ,List.setIfInBounds_toArray,List.set_cons_zero,List.set_cons_succ]
   refine wpAnyH_ready (rs:=[3,9]) (by kernel_rfl) (by simp) ?_
   refine AllReadyH.cons rfl (fun K hK=>?_) (AllReadyH.cons rfl (fun K hK=>?_) AllReadyH.nil)
   ·obtain⟨g1,g2,g3⟩:=HC.out wr.drew (Below.refl _ _).drew
    refine if_wanted (wanted_none rfl) ?_
    simp only [List.getElem_toArray,List.getElem_cons_zero,List.getElem_cons_succ]
    go_simp
    refine hK.out _ _ trivial (fun _=>?_)
    clear hK K g1 g2 g3
    refine wpAnyH_ready (rs:=[9]) (by kernel_rfl) (by simp) ?_
    refine AllReadyH.cons rfl (fun K hK=>?_) AllReadyH.nil
    refine if_wanted (wanted_none rfl) ?_
    simp only [List.getElem_toArray,List.getElem_cons_zero,List.getElem_cons_succ]
    go_simp
    refine hbes.mono ?_
    rintro e w4 ⟨rfl,hB4⟩
    have HB4:Hid (Below wr.heap.size wr w4):=⟨hB4.1,hB4.2,hB4.3,hB4.4,hB4.5⟩
    clear hB4 hbes
    refine hK.out _ _ trivial (fun _=>?_)
    clear hK K
    refine wpAnyH_ready (rs:=[10]) (by kernel_rfl) (by simp) ?_
    refine AllReadyH.cons rfl (fun K hK=>?_) AllReadyH.nil
    refine if_wanted (wanted_none rfl) ?_
    simp only [List.getElem_toArray,List.getElem_cons_zero,List.getElem_cons_succ]
    go_simp
    refine (hkd _).mono ?_
    rintro e w5 ⟨rfl,hB5⟩
    have HB5:Hid (Below wr.heap.size wr w5):=bnext HB4.out hB5
    clear hB5 hkd HB4
    refine hK.out _ _ trivial (fun _=>?_)
    clear hK K
    refine wpAnyH_take (i:=11) (v:=.int .u8 Y) rfl (by kernel_rfl) (by kernel_rfl) (by kernel_rfl) (fun _ _ _ h=>h) (Or.inl ⟨by rfl,?_⟩) trivial ?_
    ·intro w' _
     go_simp
    simp only [Act.put,List.getElem_toArray,List.getElem_cons_zero,List.getElem_cons_succ,List.setIfInBounds_toArray,List.set_cons_zero,List.set_cons_succ]
    refine wpAnyH_take (i:=12) (v:=.int .u8 Z) rfl (by kernel_rfl) (by kernel_rfl) (by kernel_rfl) (fun _ _ _ h=>h) (Or.inl ⟨by rfl,?_⟩) trivial ?_
    ·intro w' _
     go_simp
    simp only [Act.put,List.getElem_toArray,List.getElem_cons_zero,List.getElem_cons_succ,List.setIfInBounds_toArray,List.set_cons_zero,List.set_cons_succ]
    refine wpAnyH_take (i:=13) (v:=.pointer (some ⟨G,j,none⟩)) rfl (by kernel_rfl) (by kernel_rfl) (by kernel_rfl) (fun _ _ _ h=>h) (Or.inl ⟨by rfl,?_⟩) trivial ?_
    ·intro w' _
     go_simp
    simp only [Act.put,List.getElem_toArray,List.getElem_cons_zero,List.getElem_cons_succ,List.setIfInBounds_toArray,List.set_cons_zero,List.set_cons_succ]
    obtain⟨g1,g2,g3⟩:=HC.out w5 HB5.out
    refine wpAnyH_ready (rs:=[14]) (by kernel_rfl) (by simp) ?_
    refine AllReadyH.cons rfl (fun K hK=>?_) AllReadyH.nil
    refine if_wanted (wanted_none rfl) ?_
    simp only [List.getElem_toArray,List.getElem_cons_zero,List.getElem_cons_succ]
    go_simp
    refine hK.out _ _ trivial (fun _=>?_)
    clear hK K
    refine wpAnyH_done (by kernel_rfl) ?_ _
    go_wp2_with fail
    go_roundw
    case rel=>exact⟨j+1,by omega,by go_num,by rw [HN.out]; exact unfI_next hS.out hlt HB5.out⟩
    case measure=>simp [intOf]; omega
   ·refine if_wanted (wanted_none rfl) ?_
    simp only [List.getElem_toArray,List.getElem_cons_zero,List.getElem_cons_succ]
    go_simp
    refine hbes.mono ?_
    rintro e w4 ⟨rfl,hB4⟩
    have HB4:Hid (Below wr.heap.size wr w4):=⟨hB4.1,hB4.2,hB4.3,hB4.4,hB4.5⟩
    clear hB4 hbes
    refine hK.out _ _ trivial (fun _=>?_)
    clear hK K
    refine wpAnyH_ready (rs:=[3,10]) (by kernel_rfl) (by simp) ?_
    refine AllReadyH.cons rfl (fun K hK=>?_) (AllReadyH.cons rfl (fun K hK=>?_) AllReadyH.nil)
    ·obtain⟨g1,g2,g3⟩:=HC.out w4 HB4.out
     refine if_wanted (wanted_none rfl) ?_
     simp only [List.getElem_toArray,List.getElem_cons_zero,List.getElem_cons_succ]
     go_simp
     refine hK.out _ _ trivial (fun _=>?_)
     clear hK K g1 g2 g3
     refine wpAnyH_ready (rs:=[10]) (by kernel_rfl) (by simp) ?_
     refine AllReadyH.cons rfl (fun K hK=>?_) AllReadyH.nil
     refine if_wanted (wanted_none rfl) ?_
     simp only [List.getElem_toArray,List.getElem_cons_zero,List.getElem_cons_succ]
     go_simp
     refine (hkd _).mono ?_
     rintro e w5 ⟨rfl,hB5⟩
     have HB5:Hid (Below wr.heap.size wr w5):=bnext HB4.out hB5
     clear hB5 hkd HB4
     refine hK.out _ _ trivial (fun _=>?_)
     clear hK K
     refine wpAnyH_take (i:=11) (v:=.int .u8 Y) rfl (by kernel_rfl) (by kernel_rfl) (by kernel_rfl) (fun _ _ _ h=>h) (Or.inl ⟨by rfl,?_⟩) trivial ?_
     ·intro w' _
      go_simp
     simp only [Act.put,List.getElem_toArray,List.getElem_cons_zero,List.getElem_cons_succ,List.setIfInBounds_toArray,List.set_cons_zero,List.set_cons_succ]
     refine wpAnyH_take (i:=12) (v:=.int .u8 Z) rfl (by kernel_rfl) (by kernel_rfl) (by kernel_rfl) (fun _ _ _ h=>h) (Or.inl ⟨by rfl,?_⟩) trivial ?_
     ·intro w' _
      go_simp
     simp only [Act.put,List.getElem_toArray,List.getElem_cons_zero,List.getElem_cons_succ,List.setIfInBounds_toArray,List.set_cons_zero,List.set_cons_succ]
     refine wpAnyH_take (i:=13) (v:=.pointer (some ⟨G,j,none⟩)) rfl (by kernel_rfl) (by kernel_rfl) (by kernel_rfl) (fun _ _ _ h=>h) (Or.inl ⟨by rfl,?_⟩) trivial ?_
     ·intro w' _
      go_simp
     simp only [Act.put,List.getElem_toArray,List.getElem_cons_zero,List.getElem_cons_succ,List.setIfInBounds_toArray,List.set_cons_zero,List.set_cons_succ]
     obtain⟨g1,g2,g3⟩:=HC.out w5 HB5.out
     refine wpAnyH_ready (rs:=[14]) (by kernel_rfl) (by simp) ?_
     refine AllReadyH.cons rfl (fun K hK=>?_) AllReadyH.nil
     refine if_wanted (wanted_none rfl) ?_
     simp only [List.getElem_toArray,List.getElem_cons_zero,List.getElem_cons_succ]
     go_simp
     refine hK.out _ _ trivial (fun _=>?_)
     clear hK K
     refine wpAnyH_done (by kernel_rfl) ?_ _
     go_wp2_with fail
     go_roundw
     case rel=>exact⟨j+1,by omega,by go_num,by rw [HN.out]; exact unfI_next hS.out hlt HB5.out⟩
     case measure=>simp [intOf]; omega
    ·refine if_wanted (wanted_none rfl) ?_
     simp only [List.getElem_toArray,List.getElem_cons_zero,List.getElem_cons_succ]
     go_simp
     refine (hkd _).mono ?_
     rintro e w5 ⟨rfl,hB5⟩
     have HB5:Hid (Below wr.heap.size wr w5):=bnext HB4.out hB5
     clear hB5 hkd HB4
     refine hK.out _ _ trivial (fun _=>?_)
     clear hK K
     refine wpAnyH_take (i:=11) (v:=.int .u8 Y) rfl (by kernel_rfl) (by kernel_rfl) (by kernel_rfl) (fun _ _ _ h=>h) (Or.inl ⟨by rfl,?_⟩) trivial ?_
     ·intro w' _
      go_simp
     simp only [Act.put,List.getElem_toArray,List.getElem_cons_zero,List.getElem_cons_succ,List.setIfInBounds_toArray,List.set_cons_zero,List.set_cons_succ]
     refine wpAnyH_ready (rs:=[3]) (by kernel_rfl) (by simp) ?_
     refine AllReadyH.cons rfl (fun K hK=>?_) AllReadyH.nil
     obtain⟨g1,g2,g3⟩:=HC.out w5 HB5.out
     refine if_wanted (wanted_none rfl) ?_
     simp only [List.getElem_toArray,List.getElem_cons_zero,List.getElem_cons_succ]
     go_simp
     refine hK.out _ _ trivial (fun _=>?_)
     clear hK K g1 g2 g3
     refine wpAnyH_take (i:=12) (v:=.int .u8 Z) rfl (by kernel_rfl) (by kernel_rfl) (by kernel_rfl) (fun _ _ _ h=>h) (Or.inl ⟨by rfl,?_⟩) trivial ?_
     ·intro w' _
      go_simp
     simp only [Act.put,List.getElem_toArray,List.getElem_cons_zero,List.getElem_cons_succ,List.setIfInBounds_toArray,List.set_cons_zero,List.set_cons_succ]
     refine wpAnyH_take (i:=13) (v:=.pointer (some ⟨G,j,none⟩)) rfl (by kernel_rfl) (by kernel_rfl) (by kernel_rfl) (fun _ _ _ h=>h) (Or.inl ⟨by rfl,?_⟩) trivial ?_
     ·intro w' _
      go_simp
     simp only [Act.put,List.getElem_toArray,List.getElem_cons_zero,List.getElem_cons_succ,List.setIfInBounds_toArray,List.set_cons_zero,List.set_cons_succ]
     obtain⟨g1,g2,g3⟩:=HC.out w5 HB5.out
     refine wpAnyH_ready (rs:=[14]) (by kernel_rfl) (by simp) ?_
     refine AllReadyH.cons rfl (fun K hK=>?_) AllReadyH.nil
     refine if_wanted (wanted_none rfl) ?_
     simp only [List.getElem_toArray,List.getElem_cons_zero,List.getElem_cons_succ]
     go_simp
     refine hK.out _ _ trivial (fun _=>?_)
     clear hK K
     refine wpAnyH_done (by kernel_rfl) ?_ _
     go_wp2_with fail
     go_roundw
     case rel=>exact⟨j+1,by omega,by go_num,by rw [HN.out]; exact unfI_next hS.out hlt HB5.out⟩
     case measure=>simp [intOf]; omega
  ·obtain rfl:j=n:=by omega
   have dl:decide ((j:Int) < (j:Int))=false:=decide_eq_false (by omega)
   go_wp2_with fail
   go_end0
   exact⟨rfl,hS.out⟩
set_option maxRecDepth 100000 in
set_option maxHeartbeats 3200000 in
theorem unfilter_1 (r u:Nat→Int) (unit n base G cb ga ca:Nat) (w:World) (hu:1≤unit∧unit≤8) (hn:n≤200) (hr:∀ i,0≤r i∧r i < 256) (hub:∀ i,0≤u i∧u i < 256) (hO:BFn w base G n cb r) (hA:BAt w ga n u) (hne2:ga≠G):
  Calls Tryd.prog 88 #[.int .i64 1,.slice (some ⟨G,0,none⟩) n cb,.slice (some ⟨ga,0,none⟩) n ca,.int .i64 (unit:Int)] w fun e w'=>e=.returned (.tuple #[])∧UnfI w w' base G n cb r (unfL 1 r u unit n) n:=by
 have HR8:=hid_of hr
 have HU8:=hid_of hub
 have HAA:=hid_of hA
 clear hr hub hA
 go_enter Tryd.func88,Tryd.ntmps88
 go_wp2_with fail
 refine (kinds_any _).mono ?_
 rintro e w1 ⟨rfl,hm,hB1⟩
 have lk:(Instr.lookup 109 (.map (some w.heap.size)) (.int .i64 1) false).run Tryd.prog w1=.ok (fnV 109) w1:=kind_take hm 1 (by omega)
 have H0:Hid (UnfI w w1 base G n cb r (unfL 1 r u unit 0) 0):=⟨r,hO.called hB1,fun i hi=>absurd hi (Nat.not_lt_zero i),fun _ _=>rfl,rfl,But.of_below hB1⟩
 clear hm hB1 hO
 go_wp2_with fail
 go_loopw [15] (fun i w'=>∃ j:Nat,j≤n∧i=.int .i64 (j:Int)∧Hid (UnfI w w' base G n cb r (unfL 1 r u unit j) j)) (fun i _=>n - (intOf i).toNat)
 case atStart=>exact⟨0,Nat.zero_le _,rfl,H0⟩
 case round=>
  clear H0 lk
  obtain⟨j,hj,rfl,hS⟩:=hrel
  by_cases hlt:j < n
  ·obtain⟨h,hO,hh,ho,hl,hBB⟩:=hS.out
   have hAr:=HAA.out.but hBB hne2
   have hcell:=hO.cell j hlt
   have hfree:=hO.free j hlt
   rw[ho j (Nat.le_refl _)] at hcell
   have gl:G < wr.heap.size:=Own.lt hO
   have hrow:unit≤j→∃ g,(some ⟨G,0,none⟩:Option Addr)=some ⟨g,0,none⟩∧j - unit < n∧g < wr.drew.heap.size∧wr.drew.cell? ⟨g,j - unit,none⟩=some (.int .u8 ((fun i=>(unfL 1 r u unit j).getD i 0) (j - unit))):=fun hq=>by
    refine⟨_,rfl,by omega,gl,?_⟩
    show _=some (Value.int .u8 ((unfL 1 r u unit j).getD (j - unit) 0))
    rw[← hh (j - unit) (by omega)]
    exact hO.cell (j - unit) (by omega)
   have HC:Hid (∀ w',Below wr.heap.size wr w'→w'.cell? ⟨G,j,none⟩=some (.int .u8 (r j))∧w'.frozen? ⟨G,j,none⟩=false∧G < w'.heap.size):=fun w' hb=>⟨((bcell hb).1 _ _ gl).trans hcell,((bcell hb).2 _ _ gl).trans hfree,Nat.lt_of_lt_of_le gl hb.size⟩
   clear hh ho hBB hO hcell hfree hl
   have hbes:=beside_any (some ⟨G,0,none⟩) n cb (fun i=>(unfL 1 r u unit j).getD i 0) u ga n ca unit j wr.drew hu hlt hn (fun i=>getD_byte13 (unfL_byte _ _ _ _ _) i) HU8.out hAr.drew hrow
   obtain⟨X,hX⟩:∃ X,X=r j:=⟨_,rfl⟩
   have hX0:0≤X∧X < 256:=by rw [hX]; exact HR8.out j
   rw[← hX] at HC
   clear hrow hAr
   obtain⟨L,hL⟩:∃ L,L=aheadB (fun i=>(unfL 1 r u unit j).getD i 0) unit j:=⟨_,rfl⟩
   obtain⟨U,hU⟩:∃ U,U=u j:=⟨_,rfl⟩
   obtain⟨C,hC⟩:∃ C,C=aheadB u unit j:=⟨_,rfl⟩
   rw[← hL,← hU,← hC] at hbes
   have hL0:0≤L∧L < 256:=by rw [hL]; exact ahead_byte (fun i=>getD_byte13 (unfL_byte _ _ _ _ _) i) _ _
   have hU0:0≤U∧U < 256:=by rw [hU]; exact HU8.out j
   have hC0:0≤C∧C < 256:=by rw [hC]; exact ahead_byte HU8.out _ _
   have hkd:=fun W=>ahead_any L U C W
   have HY:Hid (told 1 L U C=says 1 (fun i=>(unfL 1 r u unit j).getD i 0) u unit j):=by
    show _=_
    unfold says
    rw[hL,hU,hC]
   obtain⟨Y,hY⟩:∃ Y,Y=told 1 L U C:=⟨_,rfl⟩
   have hY0:0≤Y∧Y < 256:=by rw [hY]; exact told_byte 1 hL0 hU0 hC0
   rw[← hY] at hkd HY
   obtain⟨Z,hZ⟩:∃ Z,Z=(X+Y) % 256:=⟨_,rfl⟩
   have hZ0:0≤Z∧Z < 256:=by omega
   have u8w:IntKind.u8.wrap (X+Y)=Z:=by show (X+Y) % 256=Z; omega
   have HN:Hid (unfL 1 r u unit (j+1)=unfL 1 r u unit j ++ [Z]):=by
    show _=_
    rw[unfL_next,← HY.out,hZ,hX]
   have u8y:IntKind.u8.wrap Y=Y:=by show Y % 256=Y; omega
   have dl:decide ((j:Int) < (n:Int))=true:=decide_eq_true (by omega)
   have x0:(0:Int)≤(j:Int):=by omega
   have x1:(j:Int) < (n:Int):=by omega
   clear hX hY hZ hL hU hC
   go_wp2_with fail
   refine wp_region_held (S:=fun _=>True) (by kernel_rfl) ?_
   show wpAnyH _ _ _ _ _ _ _ _ wr.drew
   refine wpAnyH_take (i:=0) (v:=.slice (some ⟨G,0,none⟩) n cb) rfl (by kernel_rfl) (by kernel_rfl) (by kernel_rfl) (fun _ _ _ h=>h) (Or.inl ⟨by rfl,?_⟩) trivial ?_
   ·intro w' _
    go_simp
   simp only [Act.put,List.getElem_toArray,List.getElem_cons_zero,List.setIfInBounds_toArray,List.set_cons_zero,List.set_cons_succ]
   refine wpAnyH_take (i:=1) (v:=.int .i64 (j:Int)) rfl (by kernel_rfl) (by kernel_rfl) (by kernel_rfl) (fun _ _ _ h=>h) (Or.inl ⟨by rfl,?_⟩) trivial ?_
   ·intro w' _
    go_simp
   simp only [Act.put,List.getElem_toArray,List.getElem_cons_zero,List.getElem_cons_succ,List.setIfInBounds_toArray,List.set_cons_zero,List.set_cons_succ]
   refine wpAnyH_take (i:=2) (v:=.pointer (some ⟨G,j,none⟩)) rfl (by kernel_rfl) (by kernel_rfl) (by kernel_rfl) (fun _ _ _ h=>h) (Or.inl ⟨by rfl,?_⟩) trivial ?_
   ·intro w' _
    go_simp
   simp only [Act.put,List.getElem_toArray,List.getElem_cons_zero,List.getElem_cons_succ,List.setIfInBounds_toArray,List.set_cons_zero,List.set_cons_succ]
   refine wpAnyH_take (i:=4) (v:=fnV 109) rfl (by kernel_rfl) (by kernel_rfl) (by kernel_rfl) (fun _ _ _ h=>h) (Or.inl ⟨by rfl,?_⟩) trivial ?_
   ·intro w' _
    go_simp
   simp only [Act.put,List.getElem_toArray,List.getElem_cons_zero,List.getElem_cons_succ,List.setIfInBounds_toArray,List.set_cons_zero,List.set_cons_succ]
   refine wpAnyH_take (i:=5) (v:=.slice (some ⟨G,0,none⟩) n cb) rfl (by kernel_rfl) (by kernel_rfl) (by kernel_rfl) (fun _ _ _ h=>h) (Or.inl ⟨by rfl,?_⟩) trivial ?_
   ·intro w' _
    go_simp
   simp only [Act.put,List.getElem_toArray,List.getElem_cons_zero,List.getElem_cons_succ,List.setIfInBounds_toArray,List.set_cons_zero,List.set_cons_succ]
   refine wpAnyH_take (i:=6) (v:=.slice (some ⟨ga,0,none⟩) n ca) rfl (by kernel_rfl) (by kernel_rfl) (by kernel_rfl) (fun _ _ _ h=>h) (Or.inl ⟨by rfl,?_⟩) trivial ?_
   ·intro w' _
    go_simp
   simp only [Act.put,List.getElem_toArray,List.getElem_cons_zero,List.getElem_cons_succ,List.setIfInBounds_toArray,List.set_cons_zero,List.set_cons_succ]
   refine wpAnyH_take (i:=7) (v:=.int .i64 (j:Int)) rfl (by kernel_rfl) (by kernel_rfl) (by kernel_rfl) (fun _ _ _ h=>h) (Or.inl ⟨by rfl,?_⟩) trivial ?_
   ·intro w' _
    go_simp
   simp only [Act.put,List.getElem_toArray,List.getElem_cons_zero,List.getElem_cons_succ,List.setIfInBounds_toArray,List.set_cons_zero,List.set_cons_succ]
   refine wpAnyH_take (i:=8) (v:=.int .i64 (unit:Int)) rfl (by kernel_rfl) (by kernel_rfl) (by kernel_rfl) (fun _ _ _ h=>h) (Or.inl ⟨by rfl,?_⟩) trivial ?_
   ·intro w' _
    go_simp
   simp only [Act.put,List.getElem_toArray,List.getElem_cons_zero,List.getElem_cons_succ,List.setIfInBounds_toArray,List.set_cons_zero,List.set_cons_succ]
   refine wpAnyH_ready (rs:=[3,9]) (by kernel_rfl) (by simp) ?_
   refine AllReadyH.cons rfl (fun K hK=>?_) (AllReadyH.cons rfl (fun K hK=>?_) AllReadyH.nil)
   ·obtain⟨g1,g2,g3⟩:=HC.out wr.drew (Below.refl _ _).drew
    refine if_wanted (wanted_none rfl) ?_
    simp only [List.getElem_toArray,List.getElem_cons_zero,List.getElem_cons_succ]
    go_simp
    refine hK.out _ _ trivial (fun _=>?_)
    clear hK K g1 g2 g3
    refine wpAnyH_ready (rs:=[9]) (by kernel_rfl) (by simp) ?_
    refine AllReadyH.cons rfl (fun K hK=>?_) AllReadyH.nil
    refine if_wanted (wanted_none rfl) ?_
    simp only [List.getElem_toArray,List.getElem_cons_zero,List.getElem_cons_succ]
    go_simp
    refine hbes.mono ?_
    rintro e w4 ⟨rfl,hB4⟩
    have HB4:Hid (Below wr.heap.size wr w4):=⟨hB4.1,hB4.2,hB4.3,hB4.4,hB4.5⟩
    clear hB4 hbes
    refine hK.out _ _ trivial (fun _=>?_)
    clear hK K
    refine wpAnyH_ready (rs:=[10]) (by kernel_rfl) (by simp) ?_
    refine AllReadyH.cons rfl (fun K hK=>?_) AllReadyH.nil
    refine if_wanted (wanted_none rfl) ?_
    simp only [List.getElem_toArray,List.getElem_cons_zero,List.getElem_cons_succ]
    go_simp
    refine (hkd _).mono ?_
    rintro e w5 ⟨rfl,hB5⟩
    have HB5:Hid (Below wr.heap.size wr w5):=bnext HB4.out hB5
    clear hB5 hkd HB4
    refine hK.out _ _ trivial (fun _=>?_)
    clear hK K
    refine wpAnyH_take (i:=11) (v:=.int .u8 Y) rfl (by kernel_rfl) (by kernel_rfl) (by kernel_rfl) (fun _ _ _ h=>h) (Or.inl ⟨by rfl,?_⟩) trivial ?_
    ·intro w' _
     go_simp
    simp only [Act.put,List.getElem_toArray,List.getElem_cons_zero,List.getElem_cons_succ,List.setIfInBounds_toArray,List.set_cons_zero,List.set_cons_succ]
    refine wpAnyH_take (i:=12) (v:=.int .u8 Z) rfl (by kernel_rfl) (by kernel_rfl) (by kernel_rfl) (fun _ _ _ h=>h) (Or.inl ⟨by rfl,?_⟩) trivial ?_
    ·intro w' _
     go_simp
    simp only [Act.put,List.getElem_toArray,List.getElem_cons_zero,List.getElem_cons_succ,List.setIfInBounds_toArray,List.set_cons_zero,List.set_cons_succ]
    refine wpAnyH_take (i:=13) (v:=.pointer (some ⟨G,j,none⟩)) rfl (by kernel_rfl) (by kernel_rfl) (by kernel_rfl) (fun _ _ _ h=>h) (Or.inl ⟨by rfl,?_⟩) trivial ?_
    ·intro w' _
     go_simp
    simp only [Act.put,List.getElem_toArray,List.getElem_cons_zero,List.getElem_cons_succ,List.setIfInBounds_toArray,List.set_cons_zero,List.set_cons_succ]
    obtain⟨g1,g2,g3⟩:=HC.out w5 HB5.out
    refine wpAnyH_ready (rs:=[14]) (by kernel_rfl) (by simp) ?_
    refine AllReadyH.cons rfl (fun K hK=>?_) AllReadyH.nil
    refine if_wanted (wanted_none rfl) ?_
    simp only [List.getElem_toArray,List.getElem_cons_zero,List.getElem_cons_succ]
    go_simp
    refine hK.out _ _ trivial (fun _=>?_)
    clear hK K
    refine wpAnyH_done (by kernel_rfl) ?_ _
    go_wp2_with fail
    go_roundw
    case rel=>exact⟨j+1,by omega,by go_num,by rw [HN.out]; exact unfI_next hS.out hlt HB5.out⟩
    case measure=>simp [intOf]; omega
   ·refine if_wanted (wanted_none rfl) ?_
    simp only [List.getElem_toArray,List.getElem_cons_zero,List.getElem_cons_succ]
    go_simp
    refine hbes.mono ?_
    rintro e w4 ⟨rfl,hB4⟩
    have HB4:Hid (Below wr.heap.size wr w4):=⟨hB4.1,hB4.2,hB4.3,hB4.4,hB4.5⟩
    clear hB4 hbes
    refine hK.out _ _ trivial (fun _=>?_)
    clear hK K
    refine wpAnyH_ready (rs:=[3,10]) (by kernel_rfl) (by simp) ?_
    refine AllReadyH.cons rfl (fun K hK=>?_) (AllReadyH.cons rfl (fun K hK=>?_) AllReadyH.nil)
    ·obtain⟨g1,g2,g3⟩:=HC.out w4 HB4.out
     refine if_wanted (wanted_none rfl) ?_
     simp only [List.getElem_toArray,List.getElem_cons_zero,List.getElem_cons_succ]
     go_simp
     refine hK.out _ _ trivial (fun _=>?_)
     clear hK K g1 g2 g3
     refine wpAnyH_ready (rs:=[10]) (by kernel_rfl) (by simp) ?_
     refine AllReadyH.cons rfl (fun K hK=>?_) AllReadyH.nil
     refine if_wanted (wanted_none rfl) ?_
     simp only [List.getElem_toArray,List.getElem_cons_zero,List.getElem_cons_succ]
     go_simp
     refine (hkd _).mono ?_
     rintro e w5 ⟨rfl,hB5⟩
     have HB5:Hid (Below wr.heap.size wr w5):=bnext HB4.out hB5
     clear hB5 hkd HB4
     refine hK.out _ _ trivial (fun _=>?_)
     clear hK K
     refine wpAnyH_take (i:=11) (v:=.int .u8 Y) rfl (by kernel_rfl) (by kernel_rfl) (by kernel_rfl) (fun _ _ _ h=>h) (Or.inl ⟨by rfl,?_⟩) trivial ?_
     ·intro w' _
      go_simp
     simp only [Act.put,List.getElem_toArray,List.getElem_cons_zero,List.getElem_cons_succ,List.setIfInBounds_toArray,List.set_cons_zero,List.set_cons_succ]
     refine wpAnyH_take (i:=12) (v:=.int .u8 Z) rfl (by kernel_rfl) (by kernel_rfl) (by kernel_rfl) (fun _ _ _ h=>h) (Or.inl ⟨by rfl,?_⟩) trivial ?_
     ·intro w' _
      go_simp
     simp only [Act.put,List.getElem_toArray,List.getElem_cons_zero,List.getElem_cons_succ,List.setIfInBounds_toArray,List.set_cons_zero,List.set_cons_succ]
     refine wpAnyH_take (i:=13) (v:=.pointer (some ⟨G,j,none⟩)) rfl (by kernel_rfl) (by kernel_rfl) (by kernel_rfl) (fun _ _ _ h=>h) (Or.inl ⟨by rfl,?_⟩) trivial ?_
     ·intro w' _
      go_simp
     simp only [Act.put,List.getElem_toArray,List.getElem_cons_zero,List.getElem_cons_succ,List.setIfInBounds_toArray,List.set_cons_zero,List.set_cons_succ]
     obtain⟨g1,g2,g3⟩:=HC.out w5 HB5.out
     refine wpAnyH_ready (rs:=[14]) (by kernel_rfl) (by simp) ?_
     refine AllReadyH.cons rfl (fun K hK=>?_) AllReadyH.nil
     refine if_wanted (wanted_none rfl) ?_
     simp only [List.getElem_toArray,List.getElem_cons_zero,List.getElem_cons_succ]
     go_simp
     refine hK.out _ _ trivial (fun _=>?_)
     clear hK K
     refine wpAnyH_done (by kernel_rfl) ?_ _
     go_wp2_with fail
     go_roundw
     case rel=>exact⟨j+1,by omega,by go_num,by rw [HN.out]; exact unfI_next hS.out hlt HB5.out⟩
     case measure=>simp [intOf]; omega
    ·refine if_wanted (wanted_none rfl) ?_
     simp only [List.getElem_toArray,List.getElem_cons_zero,List.getElem_cons_succ]
     go_simp
     refine (hkd _).mono ?_
     rintro e w5 ⟨rfl,hB5⟩
     have HB5:Hid (Below wr.heap.size wr w5):=bnext HB4.out hB5
     clear hB5 hkd HB4
     refine hK.out _ _ trivial (fun _=>?_)
     clear hK K
     refine wpAnyH_take (i:=11) (v:=.int .u8 Y) rfl (by kernel_rfl) (by kernel_rfl) (by kernel_rfl) (fun _ _ _ h=>h) (Or.inl ⟨by rfl,?_⟩) trivial ?_
     ·intro w' _
      go_simp
     simp only [Act.put,List.getElem_toArray,List.getElem_cons_zero,List.getElem_cons_succ,List.setIfInBounds_toArray,List.set_cons_zero,List.set_cons_succ]
     refine wpAnyH_ready (rs:=[3]) (by kernel_rfl) (by simp) ?_
     refine AllReadyH.cons rfl (fun K hK=>?_) AllReadyH.nil
     obtain⟨g1,g2,g3⟩:=HC.out w5 HB5.out
     refine if_wanted (wanted_none rfl) ?_
     simp only [List.getElem_toArray,List.getElem_cons_zero,List.getElem_cons_succ]
     go_simp
     refine hK.out _ _ trivial (fun _=>?_)
     clear hK K g1 g2 g3
     refine wpAnyH_take (i:=12) (v:=.int .u8 Z) rfl (by kernel_rfl) (by kernel_rfl) (by kernel_rfl) (fun _ _ _ h=>h) (Or.inl ⟨by rfl,?_⟩) trivial ?_
     ·intro w' _
      go_simp
     simp only [Act.put,List.getElem_toArray,List.getElem_cons_zero,List.getElem_cons_succ,List.setIfInBounds_toArray,List.set_cons_zero,List.set_cons_succ]
     refine wpAnyH_take (i:=13) (v:=.pointer (some ⟨G,j,none⟩)) rfl (by kernel_rfl) (by kernel_rfl) (by kernel_rfl) (fun _ _ _ h=>h) (Or.inl ⟨by rfl,?_⟩) trivial ?_
     ·intro w' _
      go_simp
     simp only [Act.put,List.getElem_toArray,List.getElem_cons_zero,List.getElem_cons_succ,List.setIfInBounds_toArray,List.set_cons_zero,List.set_cons_succ]
     obtain⟨g1,g2,g3⟩:=HC.out w5 HB5.out
     refine wpAnyH_ready (rs:=[14]) (by kernel_rfl) (by simp) ?_
     refine AllReadyH.cons rfl (fun K hK=>?_) AllReadyH.nil
     refine if_wanted (wanted_none rfl) ?_
     simp only [List.getElem_toArray,List.getElem_cons_zero,List.getElem_cons_succ]
     go_simp
     refine hK.out _ _ trivial (fun _=>?_)
     clear hK K
     refine wpAnyH_done (by kernel_rfl) ?_ _
     go_wp2_with fail
     go_roundw
     case rel=>exact⟨j+1,by omega,by go_num,by rw [HN.out]; exact unfI_next hS.out hlt HB5.out⟩
     case measure=>simp [intOf]; omega
  ·obtain rfl:j=n:=by omega
   have dl:decide ((j:Int) < (j:Int))=false:=decide_eq_false (by omega)
   go_wp2_with fail
   go_end0
   exact⟨rfl,hS.out⟩
set_option maxRecDepth 100000 in
set_option maxHeartbeats 3200000 in
theorem unfilter_2 (r u:Nat→Int) (unit n base G cb ga ca:Nat) (w:World) (hu:1≤unit∧unit≤8) (hn:n≤200) (hr:∀ i,0≤r i∧r i < 256) (hub:∀ i,0≤u i∧u i < 256) (hO:BFn w base G n cb r) (hA:BAt w ga n u) (hne2:ga≠G):
  Calls Tryd.prog 88 #[.int .i64 2,.slice (some ⟨G,0,none⟩) n cb,.slice (some ⟨ga,0,none⟩) n ca,.int .i64 (unit:Int)] w fun e w'=>e=.returned (.tuple #[])∧UnfI w w' base G n cb r (unfL 2 r u unit n) n:=by
 have HR8:=hid_of hr
 have HU8:=hid_of hub
 have HAA:=hid_of hA
 clear hr hub hA
 go_enter Tryd.func88,Tryd.ntmps88
 go_wp2_with fail
 refine (kinds_any _).mono ?_
 rintro e w1 ⟨rfl,hm,hB1⟩
 have lk:(Instr.lookup 109 (.map (some w.heap.size)) (.int .i64 2) false).run Tryd.prog w1=.ok (fnV 110) w1:=kind_take hm 2 (by omega)
 have H0:Hid (UnfI w w1 base G n cb r (unfL 2 r u unit 0) 0):=⟨r,hO.called hB1,fun i hi=>absurd hi (Nat.not_lt_zero i),fun _ _=>rfl,rfl,But.of_below hB1⟩
 clear hm hB1 hO
 go_wp2_with fail
 go_loopw [15] (fun i w'=>∃ j:Nat,j≤n∧i=.int .i64 (j:Int)∧Hid (UnfI w w' base G n cb r (unfL 2 r u unit j) j)) (fun i _=>n - (intOf i).toNat)
 case atStart=>exact⟨0,Nat.zero_le _,rfl,H0⟩
 case round=>
  clear H0 lk
  obtain⟨j,hj,rfl,hS⟩:=hrel
  by_cases hlt:j < n
  ·obtain⟨h,hO,hh,ho,hl,hBB⟩:=hS.out
   have hAr:=HAA.out.but hBB hne2
   have hcell:=hO.cell j hlt
   have hfree:=hO.free j hlt
   rw[ho j (Nat.le_refl _)] at hcell
   have gl:G < wr.heap.size:=Own.lt hO
   have hrow:unit≤j→∃ g,(some ⟨G,0,none⟩:Option Addr)=some ⟨g,0,none⟩∧j - unit < n∧g < wr.drew.heap.size∧wr.drew.cell? ⟨g,j - unit,none⟩=some (.int .u8 ((fun i=>(unfL 2 r u unit j).getD i 0) (j - unit))):=fun hq=>by
    refine⟨_,rfl,by omega,gl,?_⟩
    show _=some (Value.int .u8 ((unfL 2 r u unit j).getD (j - unit) 0))
    rw[← hh (j - unit) (by omega)]
    exact hO.cell (j - unit) (by omega)
   have HC:Hid (∀ w',Below wr.heap.size wr w'→w'.cell? ⟨G,j,none⟩=some (.int .u8 (r j))∧w'.frozen? ⟨G,j,none⟩=false∧G < w'.heap.size):=fun w' hb=>⟨((bcell hb).1 _ _ gl).trans hcell,((bcell hb).2 _ _ gl).trans hfree,Nat.lt_of_lt_of_le gl hb.size⟩
   clear hh ho hBB hO hcell hfree hl
   have hbes:=beside_any (some ⟨G,0,none⟩) n cb (fun i=>(unfL 2 r u unit j).getD i 0) u ga n ca unit j wr.drew hu hlt hn (fun i=>getD_byte13 (unfL_byte _ _ _ _ _) i) HU8.out hAr.drew hrow
   obtain⟨X,hX⟩:∃ X,X=r j:=⟨_,rfl⟩
   have hX0:0≤X∧X < 256:=by rw [hX]; exact HR8.out j
   rw[← hX] at HC
   clear hrow hAr
   obtain⟨L,hL⟩:∃ L,L=aheadB (fun i=>(unfL 2 r u unit j).getD i 0) unit j:=⟨_,rfl⟩
   obtain⟨U,hU⟩:∃ U,U=u j:=⟨_,rfl⟩
   obtain⟨C,hC⟩:∃ C,C=aheadB u unit j:=⟨_,rfl⟩
   rw[← hL,← hU,← hC] at hbes
   have hL0:0≤L∧L < 256:=by rw [hL]; exact ahead_byte (fun i=>getD_byte13 (unfL_byte _ _ _ _ _) i) _ _
   have hU0:0≤U∧U < 256:=by rw [hU]; exact HU8.out j
   have hC0:0≤C∧C < 256:=by rw [hC]; exact ahead_byte HU8.out _ _
   have hkd:=fun W=>above_any L U C W
   have HY:Hid (told 2 L U C=says 2 (fun i=>(unfL 2 r u unit j).getD i 0) u unit j):=by
    show _=_
    unfold says
    rw[hL,hU,hC]
   obtain⟨Y,hY⟩:∃ Y,Y=told 2 L U C:=⟨_,rfl⟩
   have hY0:0≤Y∧Y < 256:=by rw [hY]; exact told_byte 2 hL0 hU0 hC0
   rw[← hY] at hkd HY
   obtain⟨Z,hZ⟩:∃ Z,Z=(X+Y) % 256:=⟨_,rfl⟩
   have hZ0:0≤Z∧Z < 256:=by omega
   have u8w:IntKind.u8.wrap (X+Y)=Z:=by show (X+Y) % 256=Z; omega
   have HN:Hid (unfL 2 r u unit (j+1)=unfL 2 r u unit j ++ [Z]):=by
    show _=_
    rw[unfL_next,← HY.out,hZ,hX]
   have u8y:IntKind.u8.wrap Y=Y:=by show Y % 256=Y; omega
   have dl:decide ((j:Int) < (n:Int))=true:=decide_eq_true (by omega)
   have x0:(0:Int)≤(j:Int):=by omega
   have x1:(j:Int) < (n:Int):=by omega
   clear hX hY hZ hL hU hC
   go_wp2_with fail
   refine wp_region_held (S:=fun _=>True) (by kernel_rfl) ?_
   show wpAnyH _ _ _ _ _ _ _ _ wr.drew
   refine wpAnyH_take (i:=0) (v:=.slice (some ⟨G,0,none⟩) n cb) rfl (by kernel_rfl) (by kernel_rfl) (by kernel_rfl) (fun _ _ _ h=>h) (Or.inl ⟨by rfl,?_⟩) trivial ?_
   ·intro w' _
    go_simp
   simp only [Act.put,List.getElem_toArray,List.getElem_cons_zero,List.setIfInBounds_toArray,List.set_cons_zero,List.set_cons_succ]
   refine wpAnyH_take (i:=1) (v:=.int .i64 (j:Int)) rfl (by kernel_rfl) (by kernel_rfl) (by kernel_rfl) (fun _ _ _ h=>h) (Or.inl ⟨by rfl,?_⟩) trivial ?_
   ·intro w' _
    go_simp
   simp only [Act.put,List.getElem_toArray,List.getElem_cons_zero,List.getElem_cons_succ,List.setIfInBounds_toArray,List.set_cons_zero,List.set_cons_succ]
   refine wpAnyH_take (i:=2) (v:=.pointer (some ⟨G,j,none⟩)) rfl (by kernel_rfl) (by kernel_rfl) (by kernel_rfl) (fun _ _ _ h=>h) (Or.inl ⟨by rfl,?_⟩) trivial ?_
   ·intro w' _
    go_simp
   simp only [Act.put,List.getElem_toArray,List.getElem_cons_zero,List.getElem_cons_succ,List.setIfInBounds_toArray,List.set_cons_zero,List.set_cons_succ]
   refine wpAnyH_take (i:=4) (v:=fnV 110) rfl (by kernel_rfl) (by kernel_rfl) (by kernel_rfl) (fun _ _ _ h=>h) (Or.inl ⟨by rfl,?_⟩) trivial ?_
   ·intro w' _
    go_simp
   simp only [Act.put,List.getElem_toArray,List.getElem_cons_zero,List.getElem_cons_succ,List.setIfInBounds_toArray,List.set_cons_zero,List.set_cons_succ]
   refine wpAnyH_take (i:=5) (v:=.slice (some ⟨G,0,none⟩) n cb) rfl (by kernel_rfl) (by kernel_rfl) (by kernel_rfl) (fun _ _ _ h=>h) (Or.inl ⟨by rfl,?_⟩) trivial ?_
   ·intro w' _
    go_simp
   simp only [Act.put,List.getElem_toArray,List.getElem_cons_zero,List.getElem_cons_succ,List.setIfInBounds_toArray,List.set_cons_zero,List.set_cons_succ]
   refine wpAnyH_take (i:=6) (v:=.slice (some ⟨ga,0,none⟩) n ca) rfl (by kernel_rfl) (by kernel_rfl) (by kernel_rfl) (fun _ _ _ h=>h) (Or.inl ⟨by rfl,?_⟩) trivial ?_
   ·intro w' _
    go_simp
   simp only [Act.put,List.getElem_toArray,List.getElem_cons_zero,List.getElem_cons_succ,List.setIfInBounds_toArray,List.set_cons_zero,List.set_cons_succ]
   refine wpAnyH_take (i:=7) (v:=.int .i64 (j:Int)) rfl (by kernel_rfl) (by kernel_rfl) (by kernel_rfl) (fun _ _ _ h=>h) (Or.inl ⟨by rfl,?_⟩) trivial ?_
   ·intro w' _
    go_simp
   simp only [Act.put,List.getElem_toArray,List.getElem_cons_zero,List.getElem_cons_succ,List.setIfInBounds_toArray,List.set_cons_zero,List.set_cons_succ]
   refine wpAnyH_take (i:=8) (v:=.int .i64 (unit:Int)) rfl (by kernel_rfl) (by kernel_rfl) (by kernel_rfl) (fun _ _ _ h=>h) (Or.inl ⟨by rfl,?_⟩) trivial ?_
   ·intro w' _
    go_simp
   simp only [Act.put,List.getElem_toArray,List.getElem_cons_zero,List.getElem_cons_succ,List.setIfInBounds_toArray,List.set_cons_zero,List.set_cons_succ]
   refine wpAnyH_ready (rs:=[3,9]) (by kernel_rfl) (by simp) ?_
   refine AllReadyH.cons rfl (fun K hK=>?_) (AllReadyH.cons rfl (fun K hK=>?_) AllReadyH.nil)
   ·obtain⟨g1,g2,g3⟩:=HC.out wr.drew (Below.refl _ _).drew
    refine if_wanted (wanted_none rfl) ?_
    simp only [List.getElem_toArray,List.getElem_cons_zero,List.getElem_cons_succ]
    go_simp
    refine hK.out _ _ trivial (fun _=>?_)
    clear hK K g1 g2 g3
    refine wpAnyH_ready (rs:=[9]) (by kernel_rfl) (by simp) ?_
    refine AllReadyH.cons rfl (fun K hK=>?_) AllReadyH.nil
    refine if_wanted (wanted_none rfl) ?_
    simp only [List.getElem_toArray,List.getElem_cons_zero,List.getElem_cons_succ]
    go_simp
    refine hbes.mono ?_
    rintro e w4 ⟨rfl,hB4⟩
    have HB4:Hid (Below wr.heap.size wr w4):=⟨hB4.1,hB4.2,hB4.3,hB4.4,hB4.5⟩
    clear hB4 hbes
    refine hK.out _ _ trivial (fun _=>?_)
    clear hK K
    refine wpAnyH_ready (rs:=[10]) (by kernel_rfl) (by simp) ?_
    refine AllReadyH.cons rfl (fun K hK=>?_) AllReadyH.nil
    refine if_wanted (wanted_none rfl) ?_
    simp only [List.getElem_toArray,List.getElem_cons_zero,List.getElem_cons_succ]
    go_simp
    refine (hkd _).mono ?_
    rintro e w5 ⟨rfl,hB5⟩
    have HB5:Hid (Below wr.heap.size wr w5):=bnext HB4.out hB5
    clear hB5 hkd HB4
    refine hK.out _ _ trivial (fun _=>?_)
    clear hK K
    refine wpAnyH_take (i:=11) (v:=.int .u8 Y) rfl (by kernel_rfl) (by kernel_rfl) (by kernel_rfl) (fun _ _ _ h=>h) (Or.inl ⟨by rfl,?_⟩) trivial ?_
    ·intro w' _
     go_simp
    simp only [Act.put,List.getElem_toArray,List.getElem_cons_zero,List.getElem_cons_succ,List.setIfInBounds_toArray,List.set_cons_zero,List.set_cons_succ]
    refine wpAnyH_take (i:=12) (v:=.int .u8 Z) rfl (by kernel_rfl) (by kernel_rfl) (by kernel_rfl) (fun _ _ _ h=>h) (Or.inl ⟨by rfl,?_⟩) trivial ?_
    ·intro w' _
     go_simp
    simp only [Act.put,List.getElem_toArray,List.getElem_cons_zero,List.getElem_cons_succ,List.setIfInBounds_toArray,List.set_cons_zero,List.set_cons_succ]
    refine wpAnyH_take (i:=13) (v:=.pointer (some ⟨G,j,none⟩)) rfl (by kernel_rfl) (by kernel_rfl) (by kernel_rfl) (fun _ _ _ h=>h) (Or.inl ⟨by rfl,?_⟩) trivial ?_
    ·intro w' _
     go_simp
    simp only [Act.put,List.getElem_toArray,List.getElem_cons_zero,List.getElem_cons_succ,List.setIfInBounds_toArray,List.set_cons_zero,List.set_cons_succ]
    obtain⟨g1,g2,g3⟩:=HC.out w5 HB5.out
    refine wpAnyH_ready (rs:=[14]) (by kernel_rfl) (by simp) ?_
    refine AllReadyH.cons rfl (fun K hK=>?_) AllReadyH.nil
    refine if_wanted (wanted_none rfl) ?_
    simp only [List.getElem_toArray,List.getElem_cons_zero,List.getElem_cons_succ]
    go_simp
    refine hK.out _ _ trivial (fun _=>?_)
    clear hK K
    refine wpAnyH_done (by kernel_rfl) ?_ _
    go_wp2_with fail
    go_roundw
    case rel=>exact⟨j+1,by omega,by go_num,by rw [HN.out]; exact unfI_next hS.out hlt HB5.out⟩
    case measure=>simp [intOf]; omega
   ·refine if_wanted (wanted_none rfl) ?_
    simp only [List.getElem_toArray,List.getElem_cons_zero,List.getElem_cons_succ]
    go_simp
    refine hbes.mono ?_
    rintro e w4 ⟨rfl,hB4⟩
    have HB4:Hid (Below wr.heap.size wr w4):=⟨hB4.1,hB4.2,hB4.3,hB4.4,hB4.5⟩
    clear hB4 hbes
    refine hK.out _ _ trivial (fun _=>?_)
    clear hK K
    refine wpAnyH_ready (rs:=[3,10]) (by kernel_rfl) (by simp) ?_
    refine AllReadyH.cons rfl (fun K hK=>?_) (AllReadyH.cons rfl (fun K hK=>?_) AllReadyH.nil)
    ·obtain⟨g1,g2,g3⟩:=HC.out w4 HB4.out
     refine if_wanted (wanted_none rfl) ?_
     simp only [List.getElem_toArray,List.getElem_cons_zero,List.getElem_cons_succ]
     go_simp
     refine hK.out _ _ trivial (fun _=>?_)
     clear hK K g1 g2 g3
     refine wpAnyH_ready (rs:=[10]) (by kernel_rfl) (by simp) ?_
     refine AllReadyH.cons rfl (fun K hK=>?_) AllReadyH.nil
     refine if_wanted (wanted_none rfl) ?_
     simp only [List.getElem_toArray,List.getElem_cons_zero,List.getElem_cons_succ]
     go_simp
     refine (hkd _).mono ?_
     rintro e w5 ⟨rfl,hB5⟩
     have HB5:Hid (Below wr.heap.size wr w5):=bnext HB4.out hB5
     clear hB5 hkd HB4
     refine hK.out _ _ trivial (fun _=>?_)
     clear hK K
     refine wpAnyH_take (i:=11) (v:=.int .u8 Y) rfl (by kernel_rfl) (by kernel_rfl) (by kernel_rfl) (fun _ _ _ h=>h) (Or.inl ⟨by rfl,?_⟩) trivial ?_
     ·intro w' _
      go_simp
     simp only [Act.put,List.getElem_toArray,List.getElem_cons_zero,List.getElem_cons_succ,List.setIfInBounds_toArray,List.set_cons_zero,List.set_cons_succ]
     refine wpAnyH_take (i:=12) (v:=.int .u8 Z) rfl (by kernel_rfl) (by kernel_rfl) (by kernel_rfl) (fun _ _ _ h=>h) (Or.inl ⟨by rfl,?_⟩) trivial ?_
     ·intro w' _
      go_simp
     simp only [Act.put,List.getElem_toArray,List.getElem_cons_zero,List.getElem_cons_succ,List.setIfInBounds_toArray,List.set_cons_zero,List.set_cons_succ]
     refine wpAnyH_take (i:=13) (v:=.pointer (some ⟨G,j,none⟩)) rfl (by kernel_rfl) (by kernel_rfl) (by kernel_rfl) (fun _ _ _ h=>h) (Or.inl ⟨by rfl,?_⟩) trivial ?_
     ·intro w' _
      go_simp
     simp only [Act.put,List.getElem_toArray,List.getElem_cons_zero,List.getElem_cons_succ,List.setIfInBounds_toArray,List.set_cons_zero,List.set_cons_succ]
     obtain⟨g1,g2,g3⟩:=HC.out w5 HB5.out
     refine wpAnyH_ready (rs:=[14]) (by kernel_rfl) (by simp) ?_
     refine AllReadyH.cons rfl (fun K hK=>?_) AllReadyH.nil
     refine if_wanted (wanted_none rfl) ?_
     simp only [List.getElem_toArray,List.getElem_cons_zero,List.getElem_cons_succ]
     go_simp
     refine hK.out _ _ trivial (fun _=>?_)
     clear hK K
     refine wpAnyH_done (by kernel_rfl) ?_ _
     go_wp2_with fail
     go_roundw
     case rel=>exact⟨j+1,by omega,by go_num,by rw [HN.out]; exact unfI_next hS.out hlt HB5.out⟩
     case measure=>simp [intOf]; omega
    ·refine if_wanted (wanted_none rfl) ?_
     simp only [List.getElem_toArray,List.getElem_cons_zero,List.getElem_cons_succ]
     go_simp
     refine (hkd _).mono ?_
     rintro e w5 ⟨rfl,hB5⟩
     have HB5:Hid (Below wr.heap.size wr w5):=bnext HB4.out hB5
     clear hB5 hkd HB4
     refine hK.out _ _ trivial (fun _=>?_)
     clear hK K
     refine wpAnyH_take (i:=11) (v:=.int .u8 Y) rfl (by kernel_rfl) (by kernel_rfl) (by kernel_rfl) (fun _ _ _ h=>h) (Or.inl ⟨by rfl,?_⟩) trivial ?_
     ·intro w' _
      go_simp
     simp only [Act.put,List.getElem_toArray,List.getElem_cons_zero,List.getElem_cons_succ,List.setIfInBounds_toArray,List.set_cons_zero,List.set_cons_succ]
     refine wpAnyH_ready (rs:=[3]) (by kernel_rfl) (by simp) ?_
     refine AllReadyH.cons rfl (fun K hK=>?_) AllReadyH.nil
     obtain⟨g1,g2,g3⟩:=HC.out w5 HB5.out
     refine if_wanted (wanted_none rfl) ?_
     simp only [List.getElem_toArray,List.getElem_cons_zero,List.getElem_cons_succ]
     go_simp
     refine hK.out _ _ trivial (fun _=>?_)
     clear hK K g1 g2 g3
     refine wpAnyH_take (i:=12) (v:=.int .u8 Z) rfl (by kernel_rfl) (by kernel_rfl) (by kernel_rfl) (fun _ _ _ h=>h) (Or.inl ⟨by rfl,?_⟩) trivial ?_
     ·intro w' _
      go_simp
     simp only [Act.put,List.getElem_toArray,List.getElem_cons_zero,List.getElem_cons_succ,List.setIfInBounds_toArray,List.set_cons_zero,List.set_cons_succ]
     refine wpAnyH_take (i:=13) (v:=.pointer (some ⟨G,j,none⟩)) rfl (by kernel_rfl) (by kernel_rfl) (by kernel_rfl) (fun _ _ _ h=>h) (Or.inl ⟨by rfl,?_⟩) trivial ?_
     ·intro w' _
      go_simp
     simp only [Act.put,List.getElem_toArray,List.getElem_cons_zero,List.getElem_cons_succ,List.setIfInBounds_toArray,List.set_cons_zero,List.set_cons_succ]
     obtain⟨g1,g2,g3⟩:=HC.out w5 HB5.out
     refine wpAnyH_ready (rs:=[14]) (by kernel_rfl) (by simp) ?_
     refine AllReadyH.cons rfl (fun K hK=>?_) AllReadyH.nil
     refine if_wanted (wanted_none rfl) ?_
     simp only [List.getElem_toArray,List.getElem_cons_zero,List.getElem_cons_succ]
     go_simp
     refine hK.out _ _ trivial (fun _=>?_)
     clear hK K
     refine wpAnyH_done (by kernel_rfl) ?_ _
     go_wp2_with fail
     go_roundw
     case rel=>exact⟨j+1,by omega,by go_num,by rw [HN.out]; exact unfI_next hS.out hlt HB5.out⟩
     case measure=>simp [intOf]; omega
  ·obtain rfl:j=n:=by omega
   have dl:decide ((j:Int) < (j:Int))=false:=decide_eq_false (by omega)
   go_wp2_with fail
   go_end0
   exact⟨rfl,hS.out⟩
set_option maxRecDepth 100000 in
set_option maxHeartbeats 3200000 in
theorem unfilter_3 (r u:Nat→Int) (unit n base G cb ga ca:Nat) (w:World) (hu:1≤unit∧unit≤8) (hn:n≤200) (hr:∀ i,0≤r i∧r i < 256) (hub:∀ i,0≤u i∧u i < 256) (hO:BFn w base G n cb r) (hA:BAt w ga n u) (hne2:ga≠G):
  Calls Tryd.prog 88 #[.int .i64 3,.slice (some ⟨G,0,none⟩) n cb,.slice (some ⟨ga,0,none⟩) n ca,.int .i64 (unit:Int)] w fun e w'=>e=.returned (.tuple #[])∧UnfI w w' base G n cb r (unfL 3 r u unit n) n:=by
 have HR8:=hid_of hr
 have HU8:=hid_of hub
 have HAA:=hid_of hA
 clear hr hub hA
 go_enter Tryd.func88,Tryd.ntmps88
 go_wp2_with fail
 refine (kinds_any _).mono ?_
 rintro e w1 ⟨rfl,hm,hB1⟩
 have lk:(Instr.lookup 109 (.map (some w.heap.size)) (.int .i64 3) false).run Tryd.prog w1=.ok (fnV 111) w1:=kind_take hm 3 (by omega)
 have H0:Hid (UnfI w w1 base G n cb r (unfL 3 r u unit 0) 0):=⟨r,hO.called hB1,fun i hi=>absurd hi (Nat.not_lt_zero i),fun _ _=>rfl,rfl,But.of_below hB1⟩
 clear hm hB1 hO
 go_wp2_with fail
 go_loopw [15] (fun i w'=>∃ j:Nat,j≤n∧i=.int .i64 (j:Int)∧Hid (UnfI w w' base G n cb r (unfL 3 r u unit j) j)) (fun i _=>n - (intOf i).toNat)
 case atStart=>exact⟨0,Nat.zero_le _,rfl,H0⟩
 case round=>
  clear H0 lk
  obtain⟨j,hj,rfl,hS⟩:=hrel
  by_cases hlt:j < n
  ·obtain⟨h,hO,hh,ho,hl,hBB⟩:=hS.out
   have hAr:=HAA.out.but hBB hne2
   have hcell:=hO.cell j hlt
   have hfree:=hO.free j hlt
   rw[ho j (Nat.le_refl _)] at hcell
   have gl:G < wr.heap.size:=Own.lt hO
   have hrow:unit≤j→∃ g,(some ⟨G,0,none⟩:Option Addr)=some ⟨g,0,none⟩∧j - unit < n∧g < wr.drew.heap.size∧wr.drew.cell? ⟨g,j - unit,none⟩=some (.int .u8 ((fun i=>(unfL 3 r u unit j).getD i 0) (j - unit))):=fun hq=>by
    refine⟨_,rfl,by omega,gl,?_⟩
    show _=some (Value.int .u8 ((unfL 3 r u unit j).getD (j - unit) 0))
    rw[← hh (j - unit) (by omega)]
    exact hO.cell (j - unit) (by omega)
   have HC:Hid (∀ w',Below wr.heap.size wr w'→w'.cell? ⟨G,j,none⟩=some (.int .u8 (r j))∧w'.frozen? ⟨G,j,none⟩=false∧G < w'.heap.size):=fun w' hb=>⟨((bcell hb).1 _ _ gl).trans hcell,((bcell hb).2 _ _ gl).trans hfree,Nat.lt_of_lt_of_le gl hb.size⟩
   clear hh ho hBB hO hcell hfree hl
   have hbes:=beside_any (some ⟨G,0,none⟩) n cb (fun i=>(unfL 3 r u unit j).getD i 0) u ga n ca unit j wr.drew hu hlt hn (fun i=>getD_byte13 (unfL_byte _ _ _ _ _) i) HU8.out hAr.drew hrow
   obtain⟨X,hX⟩:∃ X,X=r j:=⟨_,rfl⟩
   have hX0:0≤X∧X < 256:=by rw [hX]; exact HR8.out j
   rw[← hX] at HC
   clear hrow hAr
   obtain⟨L,hL⟩:∃ L,L=aheadB (fun i=>(unfL 3 r u unit j).getD i 0) unit j:=⟨_,rfl⟩
   obtain⟨U,hU⟩:∃ U,U=u j:=⟨_,rfl⟩
   obtain⟨C,hC⟩:∃ C,C=aheadB u unit j:=⟨_,rfl⟩
   rw[← hL,← hU,← hC] at hbes
   have hL0:0≤L∧L < 256:=by rw [hL]; exact ahead_byte (fun i=>getD_byte13 (unfL_byte _ _ _ _ _) i) _ _
   have hU0:0≤U∧U < 256:=by rw [hU]; exact HU8.out j
   have hC0:0≤C∧C < 256:=by rw [hC]; exact ahead_byte HU8.out _ _
   have hkd:=fun W=>middle_any L U C W hL0 hU0
   have HY:Hid (told 3 L U C=says 3 (fun i=>(unfL 3 r u unit j).getD i 0) u unit j):=by
    show _=_
    unfold says
    rw[hL,hU,hC]
   obtain⟨Y,hY⟩:∃ Y,Y=told 3 L U C:=⟨_,rfl⟩
   have hY0:0≤Y∧Y < 256:=by rw [hY]; exact told_byte 3 hL0 hU0 hC0
   rw[← hY] at hkd HY
   obtain⟨Z,hZ⟩:∃ Z,Z=(X+Y) % 256:=⟨_,rfl⟩
   have hZ0:0≤Z∧Z < 256:=by omega
   have u8w:IntKind.u8.wrap (X+Y)=Z:=by show (X+Y) % 256=Z; omega
   have HN:Hid (unfL 3 r u unit (j+1)=unfL 3 r u unit j ++ [Z]):=by
    show _=_
    rw[unfL_next,← HY.out,hZ,hX]
   have u8y:IntKind.u8.wrap Y=Y:=by show Y % 256=Y; omega
   have dl:decide ((j:Int) < (n:Int))=true:=decide_eq_true (by omega)
   have x0:(0:Int)≤(j:Int):=by omega
   have x1:(j:Int) < (n:Int):=by omega
   clear hX hY hZ hL hU hC
   go_wp2_with fail
   refine wp_region_held (S:=fun _=>True) (by kernel_rfl) ?_
   show wpAnyH _ _ _ _ _ _ _ _ wr.drew
   refine wpAnyH_take (i:=0) (v:=.slice (some ⟨G,0,none⟩) n cb) rfl (by kernel_rfl) (by kernel_rfl) (by kernel_rfl) (fun _ _ _ h=>h) (Or.inl ⟨by rfl,?_⟩) trivial ?_
   ·intro w' _
    go_simp
   simp only [Act.put,List.getElem_toArray,List.getElem_cons_zero,List.setIfInBounds_toArray,List.set_cons_zero,List.set_cons_succ]
   refine wpAnyH_take (i:=1) (v:=.int .i64 (j:Int)) rfl (by kernel_rfl) (by kernel_rfl) (by kernel_rfl) (fun _ _ _ h=>h) (Or.inl ⟨by rfl,?_⟩) trivial ?_
   ·intro w' _
    go_simp
   simp only [Act.put,List.getElem_toArray,List.getElem_cons_zero,List.getElem_cons_succ,List.setIfInBounds_toArray,List.set_cons_zero,List.set_cons_succ]
   refine wpAnyH_take (i:=2) (v:=.pointer (some ⟨G,j,none⟩)) rfl (by kernel_rfl) (by kernel_rfl) (by kernel_rfl) (fun _ _ _ h=>h) (Or.inl ⟨by rfl,?_⟩) trivial ?_
   ·intro w' _
    go_simp
   simp only [Act.put,List.getElem_toArray,List.getElem_cons_zero,List.getElem_cons_succ,List.setIfInBounds_toArray,List.set_cons_zero,List.set_cons_succ]
   refine wpAnyH_take (i:=4) (v:=fnV 111) rfl (by kernel_rfl) (by kernel_rfl) (by kernel_rfl) (fun _ _ _ h=>h) (Or.inl ⟨by rfl,?_⟩) trivial ?_
   ·intro w' _
    go_simp
   simp only [Act.put,List.getElem_toArray,List.getElem_cons_zero,List.getElem_cons_succ,List.setIfInBounds_toArray,List.set_cons_zero,List.set_cons_succ]
   refine wpAnyH_take (i:=5) (v:=.slice (some ⟨G,0,none⟩) n cb) rfl (by kernel_rfl) (by kernel_rfl) (by kernel_rfl) (fun _ _ _ h=>h) (Or.inl ⟨by rfl,?_⟩) trivial ?_
   ·intro w' _
    go_simp
   simp only [Act.put,List.getElem_toArray,List.getElem_cons_zero,List.getElem_cons_succ,List.setIfInBounds_toArray,List.set_cons_zero,List.set_cons_succ]
   refine wpAnyH_take (i:=6) (v:=.slice (some ⟨ga,0,none⟩) n ca) rfl (by kernel_rfl) (by kernel_rfl) (by kernel_rfl) (fun _ _ _ h=>h) (Or.inl ⟨by rfl,?_⟩) trivial ?_
   ·intro w' _
    go_simp
   simp only [Act.put,List.getElem_toArray,List.getElem_cons_zero,List.getElem_cons_succ,List.setIfInBounds_toArray,List.set_cons_zero,List.set_cons_succ]
   refine wpAnyH_take (i:=7) (v:=.int .i64 (j:Int)) rfl (by kernel_rfl) (by kernel_rfl) (by kernel_rfl) (fun _ _ _ h=>h) (Or.inl ⟨by rfl,?_⟩) trivial ?_
   ·intro w' _
    go_simp
   simp only [Act.put,List.getElem_toArray,List.getElem_cons_zero,List.getElem_cons_succ,List.setIfInBounds_toArray,List.set_cons_zero,List.set_cons_succ]
   refine wpAnyH_take (i:=8) (v:=.int .i64 (unit:Int)) rfl (by kernel_rfl) (by kernel_rfl) (by kernel_rfl) (fun _ _ _ h=>h) (Or.inl ⟨by rfl,?_⟩) trivial ?_
   ·intro w' _
    go_simp
   simp only [Act.put,List.getElem_toArray,List.getElem_cons_zero,List.getElem_cons_succ,List.setIfInBounds_toArray,List.set_cons_zero,List.set_cons_succ]
   refine wpAnyH_ready (rs:=[3,9]) (by kernel_rfl) (by simp) ?_
   refine AllReadyH.cons rfl (fun K hK=>?_) (AllReadyH.cons rfl (fun K hK=>?_) AllReadyH.nil)
   ·obtain⟨g1,g2,g3⟩:=HC.out wr.drew (Below.refl _ _).drew
    refine if_wanted (wanted_none rfl) ?_
    simp only [List.getElem_toArray,List.getElem_cons_zero,List.getElem_cons_succ]
    go_simp
    refine hK.out _ _ trivial (fun _=>?_)
    clear hK K g1 g2 g3
    refine wpAnyH_ready (rs:=[9]) (by kernel_rfl) (by simp) ?_
    refine AllReadyH.cons rfl (fun K hK=>?_) AllReadyH.nil
    refine if_wanted (wanted_none rfl) ?_
    simp only [List.getElem_toArray,List.getElem_cons_zero,List.getElem_cons_succ]
    go_simp
    refine hbes.mono ?_
    rintro e w4 ⟨rfl,hB4⟩
    have HB4:Hid (Below wr.heap.size wr w4):=⟨hB4.1,hB4.2,hB4.3,hB4.4,hB4.5⟩
    clear hB4 hbes
    refine hK.out _ _ trivial (fun _=>?_)
    clear hK K
    refine wpAnyH_ready (rs:=[10]) (by kernel_rfl) (by simp) ?_
    refine AllReadyH.cons rfl (fun K hK=>?_) AllReadyH.nil
    refine if_wanted (wanted_none rfl) ?_
    simp only [List.getElem_toArray,List.getElem_cons_zero,List.getElem_cons_succ]
    go_simp
    refine (hkd _).mono ?_
    rintro e w5 ⟨rfl,hB5⟩
    have HB5:Hid (Below wr.heap.size wr w5):=bnext HB4.out hB5
    clear hB5 hkd HB4
    refine hK.out _ _ trivial (fun _=>?_)
    clear hK K
    refine wpAnyH_take (i:=11) (v:=.int .u8 Y) rfl (by kernel_rfl) (by kernel_rfl) (by kernel_rfl) (fun _ _ _ h=>h) (Or.inl ⟨by rfl,?_⟩) trivial ?_
    ·intro w' _
     go_simp
    simp only [Act.put,List.getElem_toArray,List.getElem_cons_zero,List.getElem_cons_succ,List.setIfInBounds_toArray,List.set_cons_zero,List.set_cons_succ]
    refine wpAnyH_take (i:=12) (v:=.int .u8 Z) rfl (by kernel_rfl) (by kernel_rfl) (by kernel_rfl) (fun _ _ _ h=>h) (Or.inl ⟨by rfl,?_⟩) trivial ?_
    ·intro w' _
     go_simp
    simp only [Act.put,List.getElem_toArray,List.getElem_cons_zero,List.getElem_cons_succ,List.setIfInBounds_toArray,List.set_cons_zero,List.set_cons_succ]
    refine wpAnyH_take (i:=13) (v:=.pointer (some ⟨G,j,none⟩)) rfl (by kernel_rfl) (by kernel_rfl) (by kernel_rfl) (fun _ _ _ h=>h) (Or.inl ⟨by rfl,?_⟩) trivial ?_
    ·intro w' _
     go_simp
    simp only [Act.put,List.getElem_toArray,List.getElem_cons_zero,List.getElem_cons_succ,List.setIfInBounds_toArray,List.set_cons_zero,List.set_cons_succ]
    obtain⟨g1,g2,g3⟩:=HC.out w5 HB5.out
    refine wpAnyH_ready (rs:=[14]) (by kernel_rfl) (by simp) ?_
    refine AllReadyH.cons rfl (fun K hK=>?_) AllReadyH.nil
    refine if_wanted (wanted_none rfl) ?_
    simp only [List.getElem_toArray,List.getElem_cons_zero,List.getElem_cons_succ]
    go_simp
    refine hK.out _ _ trivial (fun _=>?_)
    clear hK K
    refine wpAnyH_done (by kernel_rfl) ?_ _
    go_wp2_with fail
    go_roundw
    case rel=>exact⟨j+1,by omega,by go_num,by rw [HN.out]; exact unfI_next hS.out hlt HB5.out⟩
    case measure=>simp [intOf]; omega
   ·refine if_wanted (wanted_none rfl) ?_
    simp only [List.getElem_toArray,List.getElem_cons_zero,List.getElem_cons_succ]
    go_simp
    refine hbes.mono ?_
    rintro e w4 ⟨rfl,hB4⟩
    have HB4:Hid (Below wr.heap.size wr w4):=⟨hB4.1,hB4.2,hB4.3,hB4.4,hB4.5⟩
    clear hB4 hbes
    refine hK.out _ _ trivial (fun _=>?_)
    clear hK K
    refine wpAnyH_ready (rs:=[3,10]) (by kernel_rfl) (by simp) ?_
    refine AllReadyH.cons rfl (fun K hK=>?_) (AllReadyH.cons rfl (fun K hK=>?_) AllReadyH.nil)
    ·obtain⟨g1,g2,g3⟩:=HC.out w4 HB4.out
     refine if_wanted (wanted_none rfl) ?_
     simp only [List.getElem_toArray,List.getElem_cons_zero,List.getElem_cons_succ]
     go_simp
     refine hK.out _ _ trivial (fun _=>?_)
     clear hK K g1 g2 g3
     refine wpAnyH_ready (rs:=[10]) (by kernel_rfl) (by simp) ?_
     refine AllReadyH.cons rfl (fun K hK=>?_) AllReadyH.nil
     refine if_wanted (wanted_none rfl) ?_
     simp only [List.getElem_toArray,List.getElem_cons_zero,List.getElem_cons_succ]
     go_simp
     refine (hkd _).mono ?_
     rintro e w5 ⟨rfl,hB5⟩
     have HB5:Hid (Below wr.heap.size wr w5):=bnext HB4.out hB5
     clear hB5 hkd HB4
     refine hK.out _ _ trivial (fun _=>?_)
     clear hK K
     refine wpAnyH_take (i:=11) (v:=.int .u8 Y) rfl (by kernel_rfl) (by kernel_rfl) (by kernel_rfl) (fun _ _ _ h=>h) (Or.inl ⟨by rfl,?_⟩) trivial ?_
     ·intro w' _
      go_simp
     simp only [Act.put,List.getElem_toArray,List.getElem_cons_zero,List.getElem_cons_succ,List.setIfInBounds_toArray,List.set_cons_zero,List.set_cons_succ]
     refine wpAnyH_take (i:=12) (v:=.int .u8 Z) rfl (by kernel_rfl) (by kernel_rfl) (by kernel_rfl) (fun _ _ _ h=>h) (Or.inl ⟨by rfl,?_⟩) trivial ?_
     ·intro w' _
      go_simp
     simp only [Act.put,List.getElem_toArray,List.getElem_cons_zero,List.getElem_cons_succ,List.setIfInBounds_toArray,List.set_cons_zero,List.set_cons_succ]
     refine wpAnyH_take (i:=13) (v:=.pointer (some ⟨G,j,none⟩)) rfl (by kernel_rfl) (by kernel_rfl) (by kernel_rfl) (fun _ _ _ h=>h) (Or.inl ⟨by rfl,?_⟩) trivial ?_
     ·intro w' _
      go_simp
     simp only [Act.put,List.getElem_toArray,List.getElem_cons_zero,List.getElem_cons_succ,List.setIfInBounds_toArray,List.set_cons_zero,List.set_cons_succ]
     obtain⟨g1,g2,g3⟩:=HC.out w5 HB5.out
     refine wpAnyH_ready (rs:=[14]) (by kernel_rfl) (by simp) ?_
     refine AllReadyH.cons rfl (fun K hK=>?_) AllReadyH.nil
     refine if_wanted (wanted_none rfl) ?_
     simp only [List.getElem_toArray,List.getElem_cons_zero,List.getElem_cons_succ]
     go_simp
     refine hK.out _ _ trivial (fun _=>?_)
     clear hK K
     refine wpAnyH_done (by kernel_rfl) ?_ _
     go_wp2_with fail
     go_roundw
     case rel=>exact⟨j+1,by omega,by go_num,by rw [HN.out]; exact unfI_next hS.out hlt HB5.out⟩
     case measure=>simp [intOf]; omega
    ·refine if_wanted (wanted_none rfl) ?_
     simp only [List.getElem_toArray,List.getElem_cons_zero,List.getElem_cons_succ]
     go_simp
     refine (hkd _).mono ?_
     rintro e w5 ⟨rfl,hB5⟩
     have HB5:Hid (Below wr.heap.size wr w5):=bnext HB4.out hB5
     clear hB5 hkd HB4
     refine hK.out _ _ trivial (fun _=>?_)
     clear hK K
     refine wpAnyH_take (i:=11) (v:=.int .u8 Y) rfl (by kernel_rfl) (by kernel_rfl) (by kernel_rfl) (fun _ _ _ h=>h) (Or.inl ⟨by rfl,?_⟩) trivial ?_
     ·intro w' _
      go_simp
     simp only [Act.put,List.getElem_toArray,List.getElem_cons_zero,List.getElem_cons_succ,List.setIfInBounds_toArray,List.set_cons_zero,List.set_cons_succ]
     refine wpAnyH_ready (rs:=[3]) (by kernel_rfl) (by simp) ?_
     refine AllReadyH.cons rfl (fun K hK=>?_) AllReadyH.nil
     obtain⟨g1,g2,g3⟩:=HC.out w5 HB5.out
     refine if_wanted (wanted_none rfl) ?_
     simp only [List.getElem_toArray,List.getElem_cons_zero,List.getElem_cons_succ]
     go_simp
     refine hK.out _ _ trivial (fun _=>?_)
     clear hK K g1 g2 g3
     refine wpAnyH_take (i:=12) (v:=.int .u8 Z) rfl (by kernel_rfl) (by kernel_rfl) (by kernel_rfl) (fun _ _ _ h=>h) (Or.inl ⟨by rfl,?_⟩) trivial ?_
     ·intro w' _
      go_simp
     simp only [Act.put,List.getElem_toArray,List.getElem_cons_zero,List.getElem_cons_succ,List.setIfInBounds_toArray,List.set_cons_zero,List.set_cons_succ]
     refine wpAnyH_take (i:=13) (v:=.pointer (some ⟨G,j,none⟩)) rfl (by kernel_rfl) (by kernel_rfl) (by kernel_rfl) (fun _ _ _ h=>h) (Or.inl ⟨by rfl,?_⟩) trivial ?_
     ·intro w' _
      go_simp
     simp only [Act.put,List.getElem_toArray,List.getElem_cons_zero,List.getElem_cons_succ,List.setIfInBounds_toArray,List.set_cons_zero,List.set_cons_succ]
     obtain⟨g1,g2,g3⟩:=HC.out w5 HB5.out
     refine wpAnyH_ready (rs:=[14]) (by kernel_rfl) (by simp) ?_
     refine AllReadyH.cons rfl (fun K hK=>?_) AllReadyH.nil
     refine if_wanted (wanted_none rfl) ?_
     simp only [List.getElem_toArray,List.getElem_cons_zero,List.getElem_cons_succ]
     go_simp
     refine hK.out _ _ trivial (fun _=>?_)
     clear hK K
     refine wpAnyH_done (by kernel_rfl) ?_ _
     go_wp2_with fail
     go_roundw
     case rel=>exact⟨j+1,by omega,by go_num,by rw [HN.out]; exact unfI_next hS.out hlt HB5.out⟩
     case measure=>simp [intOf]; omega
  ·obtain rfl:j=n:=by omega
   have dl:decide ((j:Int) < (j:Int))=false:=decide_eq_false (by omega)
   go_wp2_with fail
   go_end0
   exact⟨rfl,hS.out⟩
set_option maxRecDepth 100000 in
set_option maxHeartbeats 3200000 in
theorem unfilter_4 (r u:Nat→Int) (unit n base G cb ga ca:Nat) (w:World) (hu:1≤unit∧unit≤8) (hn:n≤200) (hr:∀ i,0≤r i∧r i < 256) (hub:∀ i,0≤u i∧u i < 256) (hO:BFn w base G n cb r) (hA:BAt w ga n u) (hne2:ga≠G):
  Calls Tryd.prog 88 #[.int .i64 4,.slice (some ⟨G,0,none⟩) n cb,.slice (some ⟨ga,0,none⟩) n ca,.int .i64 (unit:Int)] w fun e w'=>e=.returned (.tuple #[])∧UnfI w w' base G n cb r (unfL 4 r u unit n) n:=by
 have HR8:=hid_of hr
 have HU8:=hid_of hub
 have HAA:=hid_of hA
 clear hr hub hA
 go_enter Tryd.func88,Tryd.ntmps88
 go_wp2_with fail
 refine (kinds_any _).mono ?_
 rintro e w1 ⟨rfl,hm,hB1⟩
 have lk:(Instr.lookup 109 (.map (some w.heap.size)) (.int .i64 4) false).run Tryd.prog w1=.ok (fnV 112) w1:=kind_take hm 4 (by omega)
 have H0:Hid (UnfI w w1 base G n cb r (unfL 4 r u unit 0) 0):=⟨r,hO.called hB1,fun i hi=>absurd hi (Nat.not_lt_zero i),fun _ _=>rfl,rfl,But.of_below hB1⟩
 clear hm hB1 hO
 go_wp2_with fail
 go_loopw [15] (fun i w'=>∃ j:Nat,j≤n∧i=.int .i64 (j:Int)∧Hid (UnfI w w' base G n cb r (unfL 4 r u unit j) j)) (fun i _=>n - (intOf i).toNat)
 case atStart=>exact⟨0,Nat.zero_le _,rfl,H0⟩
 case round=>
  clear H0 lk
  obtain⟨j,hj,rfl,hS⟩:=hrel
  by_cases hlt:j < n
  ·obtain⟨h,hO,hh,ho,hl,hBB⟩:=hS.out
   have hAr:=HAA.out.but hBB hne2
   have hcell:=hO.cell j hlt
   have hfree:=hO.free j hlt
   rw[ho j (Nat.le_refl _)] at hcell
   have gl:G < wr.heap.size:=Own.lt hO
   have hrow:unit≤j→∃ g,(some ⟨G,0,none⟩:Option Addr)=some ⟨g,0,none⟩∧j - unit < n∧g < wr.drew.heap.size∧wr.drew.cell? ⟨g,j - unit,none⟩=some (.int .u8 ((fun i=>(unfL 4 r u unit j).getD i 0) (j - unit))):=fun hq=>by
    refine⟨_,rfl,by omega,gl,?_⟩
    show _=some (Value.int .u8 ((unfL 4 r u unit j).getD (j - unit) 0))
    rw[← hh (j - unit) (by omega)]
    exact hO.cell (j - unit) (by omega)
   have HC:Hid (∀ w',Below wr.heap.size wr w'→w'.cell? ⟨G,j,none⟩=some (.int .u8 (r j))∧w'.frozen? ⟨G,j,none⟩=false∧G < w'.heap.size):=fun w' hb=>⟨((bcell hb).1 _ _ gl).trans hcell,((bcell hb).2 _ _ gl).trans hfree,Nat.lt_of_lt_of_le gl hb.size⟩
   clear hh ho hBB hO hcell hfree hl
   have hbes:=beside_any (some ⟨G,0,none⟩) n cb (fun i=>(unfL 4 r u unit j).getD i 0) u ga n ca unit j wr.drew hu hlt hn (fun i=>getD_byte13 (unfL_byte _ _ _ _ _) i) HU8.out hAr.drew hrow
   obtain⟨X,hX⟩:∃ X,X=r j:=⟨_,rfl⟩
   have hX0:0≤X∧X < 256:=by rw [hX]; exact HR8.out j
   rw[← hX] at HC
   clear hrow hAr
   obtain⟨L,hL⟩:∃ L,L=aheadB (fun i=>(unfL 4 r u unit j).getD i 0) unit j:=⟨_,rfl⟩
   obtain⟨U,hU⟩:∃ U,U=u j:=⟨_,rfl⟩
   obtain⟨C,hC⟩:∃ C,C=aheadB u unit j:=⟨_,rfl⟩
   rw[← hL,← hU,← hC] at hbes
   have hL0:0≤L∧L < 256:=by rw [hL]; exact ahead_byte (fun i=>getD_byte13 (unfL_byte _ _ _ _ _) i) _ _
   have hU0:0≤U∧U < 256:=by rw [hU]; exact HU8.out j
   have hC0:0≤C∧C < 256:=by rw [hC]; exact ahead_byte HU8.out _ _
   have hkd:=fun W=>nearest_any L U C W hL0 hU0 hC0
   have HY:Hid (told 4 L U C=says 4 (fun i=>(unfL 4 r u unit j).getD i 0) u unit j):=by
    show _=_
    unfold says
    rw[hL,hU,hC]
   obtain⟨Y,hY⟩:∃ Y,Y=told 4 L U C:=⟨_,rfl⟩
   have hY0:0≤Y∧Y < 256:=by rw [hY]; exact told_byte 4 hL0 hU0 hC0
   rw[← hY] at hkd HY
   obtain⟨Z,hZ⟩:∃ Z,Z=(X+Y) % 256:=⟨_,rfl⟩
   have hZ0:0≤Z∧Z < 256:=by omega
   have u8w:IntKind.u8.wrap (X+Y)=Z:=by show (X+Y) % 256=Z; omega
   have HN:Hid (unfL 4 r u unit (j+1)=unfL 4 r u unit j ++ [Z]):=by
    show _=_
    rw[unfL_next,← HY.out,hZ,hX]
   have u8y:IntKind.u8.wrap Y=Y:=by show Y % 256=Y; omega
   have dl:decide ((j:Int) < (n:Int))=true:=decide_eq_true (by omega)
   have x0:(0:Int)≤(j:Int):=by omega
   have x1:(j:Int) < (n:Int):=by omega
   clear hX hY hZ hL hU hC
   go_wp2_with fail
   refine wp_region_held (S:=fun _=>True) (by kernel_rfl) ?_
   show wpAnyH _ _ _ _ _ _ _ _ wr.drew
   refine wpAnyH_take (i:=0) (v:=.slice (some ⟨G,0,none⟩) n cb) rfl (by kernel_rfl) (by kernel_rfl) (by kernel_rfl) (fun _ _ _ h=>h) (Or.inl ⟨by rfl,?_⟩) trivial ?_
   ·intro w' _
    go_simp
   simp only [Act.put,List.getElem_toArray,List.getElem_cons_zero,List.setIfInBounds_toArray,List.set_cons_zero,List.set_cons_succ]
   refine wpAnyH_take (i:=1) (v:=.int .i64 (j:Int)) rfl (by kernel_rfl) (by kernel_rfl) (by kernel_rfl) (fun _ _ _ h=>h) (Or.inl ⟨by rfl,?_⟩) trivial ?_
   ·intro w' _
    go_simp
   simp only [Act.put,List.getElem_toArray,List.getElem_cons_zero,List.getElem_cons_succ,List.setIfInBounds_toArray,List.set_cons_zero,List.set_cons_succ]
   refine wpAnyH_take (i:=2) (v:=.pointer (some ⟨G,j,none⟩)) rfl (by kernel_rfl) (by kernel_rfl) (by kernel_rfl) (fun _ _ _ h=>h) (Or.inl ⟨by rfl,?_⟩) trivial ?_
   ·intro w' _
    go_simp
   simp only [Act.put,List.getElem_toArray,List.getElem_cons_zero,List.getElem_cons_succ,List.setIfInBounds_toArray,List.set_cons_zero,List.set_cons_succ]
   refine wpAnyH_take (i:=4) (v:=fnV 112) rfl (by kernel_rfl) (by kernel_rfl) (by kernel_rfl) (fun _ _ _ h=>h) (Or.inl ⟨by rfl,?_⟩) trivial ?_
   ·intro w' _
    go_simp
   simp only [Act.put,List.getElem_toArray,List.getElem_cons_zero,List.getElem_cons_succ,List.setIfInBounds_toArray,List.set_cons_zero,List.set_cons_succ]
   refine wpAnyH_take (i:=5) (v:=.slice (some ⟨G,0,none⟩) n cb) rfl (by kernel_rfl) (by kernel_rfl) (by kernel_rfl) (fun _ _ _ h=>h) (Or.inl ⟨by rfl,?_⟩) trivial ?_
   ·intro w' _
    go_simp
   simp only [Act.put,List.getElem_toArray,List.getElem_cons_zero,List.getElem_cons_succ,List.setIfInBounds_toArray,List.set_cons_zero,List.set_cons_succ]
   refine wpAnyH_take (i:=6) (v:=.slice (some ⟨ga,0,none⟩) n ca) rfl (by kernel_rfl) (by kernel_rfl) (by kernel_rfl) (fun _ _ _ h=>h) (Or.inl ⟨by rfl,?_⟩) trivial ?_
   ·intro w' _
    go_simp
   simp only [Act.put,List.getElem_toArray,List.getElem_cons_zero,List.getElem_cons_succ,List.setIfInBounds_toArray,List.set_cons_zero,List.set_cons_succ]
   refine wpAnyH_take (i:=7) (v:=.int .i64 (j:Int)) rfl (by kernel_rfl) (by kernel_rfl) (by kernel_rfl) (fun _ _ _ h=>h) (Or.inl ⟨by rfl,?_⟩) trivial ?_
   ·intro w' _
    go_simp
   simp only [Act.put,List.getElem_toArray,List.getElem_cons_zero,List.getElem_cons_succ,List.setIfInBounds_toArray,List.set_cons_zero,List.set_cons_succ]
   refine wpAnyH_take (i:=8) (v:=.int .i64 (unit:Int)) rfl (by kernel_rfl) (by kernel_rfl) (by kernel_rfl) (fun _ _ _ h=>h) (Or.inl ⟨by rfl,?_⟩) trivial ?_
   ·intro w' _
    go_simp
   simp only [Act.put,List.getElem_toArray,List.getElem_cons_zero,List.getElem_cons_succ,List.setIfInBounds_toArray,List.set_cons_zero,List.set_cons_succ]
   refine wpAnyH_ready (rs:=[3,9]) (by kernel_rfl) (by simp) ?_
   refine AllReadyH.cons rfl (fun K hK=>?_) (AllReadyH.cons rfl (fun K hK=>?_) AllReadyH.nil)
   ·obtain⟨g1,g2,g3⟩:=HC.out wr.drew (Below.refl _ _).drew
    refine if_wanted (wanted_none rfl) ?_
    simp only [List.getElem_toArray,List.getElem_cons_zero,List.getElem_cons_succ]
    go_simp
    refine hK.out _ _ trivial (fun _=>?_)
    clear hK K g1 g2 g3
    refine wpAnyH_ready (rs:=[9]) (by kernel_rfl) (by simp) ?_
    refine AllReadyH.cons rfl (fun K hK=>?_) AllReadyH.nil
    refine if_wanted (wanted_none rfl) ?_
    simp only [List.getElem_toArray,List.getElem_cons_zero,List.getElem_cons_succ]
    go_simp
    refine hbes.mono ?_
    rintro e w4 ⟨rfl,hB4⟩
    have HB4:Hid (Below wr.heap.size wr w4):=⟨hB4.1,hB4.2,hB4.3,hB4.4,hB4.5⟩
    clear hB4 hbes
    refine hK.out _ _ trivial (fun _=>?_)
    clear hK K
    refine wpAnyH_ready (rs:=[10]) (by kernel_rfl) (by simp) ?_
    refine AllReadyH.cons rfl (fun K hK=>?_) AllReadyH.nil
    refine if_wanted (wanted_none rfl) ?_
    simp only [List.getElem_toArray,List.getElem_cons_zero,List.getElem_cons_succ]
    go_simp
    refine (hkd _).mono ?_
    rintro e w5 ⟨rfl,hB5⟩
    have HB5:Hid (Below wr.heap.size wr w5):=bnext HB4.out hB5
    clear hB5 hkd HB4
    refine hK.out _ _ trivial (fun _=>?_)
    clear hK K
    refine wpAnyH_take (i:=11) (v:=.int .u8 Y) rfl (by kernel_rfl) (by kernel_rfl) (by kernel_rfl) (fun _ _ _ h=>h) (Or.inl ⟨by rfl,?_⟩) trivial ?_
    ·intro w' _
     go_simp
    simp only [Act.put,List.getElem_toArray,List.getElem_cons_zero,List.getElem_cons_succ,List.setIfInBounds_toArray,List.set_cons_zero,List.set_cons_succ]
    refine wpAnyH_take (i:=12) (v:=.int .u8 Z) rfl (by kernel_rfl) (by kernel_rfl) (by kernel_rfl) (fun _ _ _ h=>h) (Or.inl ⟨by rfl,?_⟩) trivial ?_
    ·intro w' _
     go_simp
    simp only [Act.put,List.getElem_toArray,List.getElem_cons_zero,List.getElem_cons_succ,List.setIfInBounds_toArray,List.set_cons_zero,List.set_cons_succ]
    refine wpAnyH_take (i:=13) (v:=.pointer (some ⟨G,j,none⟩)) rfl (by kernel_rfl) (by kernel_rfl) (by kernel_rfl) (fun _ _ _ h=>h) (Or.inl ⟨by rfl,?_⟩) trivial ?_
    ·intro w' _
     go_simp
    simp only [Act.put,List.getElem_toArray,List.getElem_cons_zero,List.getElem_cons_succ,List.setIfInBounds_toArray,List.set_cons_zero,List.set_cons_succ]
    obtain⟨g1,g2,g3⟩:=HC.out w5 HB5.out
    refine wpAnyH_ready (rs:=[14]) (by kernel_rfl) (by simp) ?_
    refine AllReadyH.cons rfl (fun K hK=>?_) AllReadyH.nil
    refine if_wanted (wanted_none rfl) ?_
    simp only [List.getElem_toArray,List.getElem_cons_zero,List.getElem_cons_succ]
    go_simp
    refine hK.out _ _ trivial (fun _=>?_)
    clear hK K
    refine wpAnyH_done (by kernel_rfl) ?_ _
    go_wp2_with fail
    go_roundw
    case rel=>exact⟨j+1,by omega,by go_num,by rw [HN.out]; exact unfI_next hS.out hlt HB5.out⟩
    case measure=>simp [intOf]; omega
   ·refine if_wanted (wanted_none rfl) ?_
    simp only [List.getElem_toArray,List.getElem_cons_zero,List.getElem_cons_succ]
    go_simp
    refine hbes.mono ?_
    rintro e w4 ⟨rfl,hB4⟩
    have HB4:Hid (Below wr.heap.size wr w4):=⟨hB4.1,hB4.2,hB4.3,hB4.4,hB4.5⟩
    clear hB4 hbes
    refine hK.out _ _ trivial (fun _=>?_)
    clear hK K
    refine wpAnyH_ready (rs:=[3,10]) (by kernel_rfl) (by simp) ?_
    refine AllReadyH.cons rfl (fun K hK=>?_) (AllReadyH.cons rfl (fun K hK=>?_) AllReadyH.nil)
    ·obtain⟨g1,g2,g3⟩:=HC.out w4 HB4.out
     refine if_wanted (wanted_none rfl) ?_
     simp only [List.getElem_toArray,List.getElem_cons_zero,List.getElem_cons_succ]
     go_simp
     refine hK.out _ _ trivial (fun _=>?_)
     clear hK K g1 g2 g3
     refine wpAnyH_ready (rs:=[10]) (by kernel_rfl) (by simp) ?_
     refine AllReadyH.cons rfl (fun K hK=>?_) AllReadyH.nil
     refine if_wanted (wanted_none rfl) ?_
     simp only [List.getElem_toArray,List.getElem_cons_zero,List.getElem_cons_succ]
     go_simp
     refine (hkd _).mono ?_
     rintro e w5 ⟨rfl,hB5⟩
     have HB5:Hid (Below wr.heap.size wr w5):=bnext HB4.out hB5
     clear hB5 hkd HB4
     refine hK.out _ _ trivial (fun _=>?_)
     clear hK K
     refine wpAnyH_take (i:=11) (v:=.int .u8 Y) rfl (by kernel_rfl) (by kernel_rfl) (by kernel_rfl) (fun _ _ _ h=>h) (Or.inl ⟨by rfl,?_⟩) trivial ?_
     ·intro w' _
      go_simp
     simp only [Act.put,List.getElem_toArray,List.getElem_cons_zero,List.getElem_cons_succ,List.setIfInBounds_toArray,List.set_cons_zero,List.set_cons_succ]
     refine wpAnyH_take (i:=12) (v:=.int .u8 Z) rfl (by kernel_rfl) (by kernel_rfl) (by kernel_rfl) (fun _ _ _ h=>h) (Or.inl ⟨by rfl,?_⟩) trivial ?_
     ·intro w' _
      go_simp
     simp only [Act.put,List.getElem_toArray,List.getElem_cons_zero,List.getElem_cons_succ,List.setIfInBounds_toArray,List.set_cons_zero,List.set_cons_succ]
     refine wpAnyH_take (i:=13) (v:=.pointer (some ⟨G,j,none⟩)) rfl (by kernel_rfl) (by kernel_rfl) (by kernel_rfl) (fun _ _ _ h=>h) (Or.inl ⟨by rfl,?_⟩) trivial ?_
     ·intro w' _
      go_simp
     simp only [Act.put,List.getElem_toArray,List.getElem_cons_zero,List.getElem_cons_succ,List.setIfInBounds_toArray,List.set_cons_zero,List.set_cons_succ]
     obtain⟨g1,g2,g3⟩:=HC.out w5 HB5.out
     refine wpAnyH_ready (rs:=[14]) (by kernel_rfl) (by simp) ?_
     refine AllReadyH.cons rfl (fun K hK=>?_) AllReadyH.nil
     refine if_wanted (wanted_none rfl) ?_
     simp only [List.getElem_toArray,List.getElem_cons_zero,List.getElem_cons_succ]
     go_simp
     refine hK.out _ _ trivial (fun _=>?_)
     clear hK K
     refine wpAnyH_done (by kernel_rfl) ?_ _
     go_wp2_with fail
     go_roundw
     case rel=>exact⟨j+1,by omega,by go_num,by rw [HN.out]; exact unfI_next hS.out hlt HB5.out⟩
     case measure=>simp [intOf]; omega
    ·refine if_wanted (wanted_none rfl) ?_
     simp only [List.getElem_toArray,List.getElem_cons_zero,List.getElem_cons_succ]
     go_simp
     refine (hkd _).mono ?_
     rintro e w5 ⟨rfl,hB5⟩
     have HB5:Hid (Below wr.heap.size wr w5):=bnext HB4.out hB5
     clear hB5 hkd HB4
     refine hK.out _ _ trivial (fun _=>?_)
     clear hK K
     refine wpAnyH_take (i:=11) (v:=.int .u8 Y) rfl (by kernel_rfl) (by kernel_rfl) (by kernel_rfl) (fun _ _ _ h=>h) (Or.inl ⟨by rfl,?_⟩) trivial ?_
     ·intro w' _
      go_simp
     simp only [Act.put,List.getElem_toArray,List.getElem_cons_zero,List.getElem_cons_succ,List.setIfInBounds_toArray,List.set_cons_zero,List.set_cons_succ]
     refine wpAnyH_ready (rs:=[3]) (by kernel_rfl) (by simp) ?_
     refine AllReadyH.cons rfl (fun K hK=>?_) AllReadyH.nil
     obtain⟨g1,g2,g3⟩:=HC.out w5 HB5.out
     refine if_wanted (wanted_none rfl) ?_
     simp only [List.getElem_toArray,List.getElem_cons_zero,List.getElem_cons_succ]
     go_simp
     refine hK.out _ _ trivial (fun _=>?_)
     clear hK K g1 g2 g3
     refine wpAnyH_take (i:=12) (v:=.int .u8 Z) rfl (by kernel_rfl) (by kernel_rfl) (by kernel_rfl) (fun _ _ _ h=>h) (Or.inl ⟨by rfl,?_⟩) trivial ?_
     ·intro w' _
      go_simp
     simp only [Act.put,List.getElem_toArray,List.getElem_cons_zero,List.getElem_cons_succ,List.setIfInBounds_toArray,List.set_cons_zero,List.set_cons_succ]
     refine wpAnyH_take (i:=13) (v:=.pointer (some ⟨G,j,none⟩)) rfl (by kernel_rfl) (by kernel_rfl) (by kernel_rfl) (fun _ _ _ h=>h) (Or.inl ⟨by rfl,?_⟩) trivial ?_
     ·intro w' _
      go_simp
     simp only [Act.put,List.getElem_toArray,List.getElem_cons_zero,List.getElem_cons_succ,List.setIfInBounds_toArray,List.set_cons_zero,List.set_cons_succ]
     obtain⟨g1,g2,g3⟩:=HC.out w5 HB5.out
     refine wpAnyH_ready (rs:=[14]) (by kernel_rfl) (by simp) ?_
     refine AllReadyH.cons rfl (fun K hK=>?_) AllReadyH.nil
     refine if_wanted (wanted_none rfl) ?_
     simp only [List.getElem_toArray,List.getElem_cons_zero,List.getElem_cons_succ]
     go_simp
     refine hK.out _ _ trivial (fun _=>?_)
     clear hK K
     refine wpAnyH_done (by kernel_rfl) ?_ _
     go_wp2_with fail
     go_roundw
     case rel=>exact⟨j+1,by omega,by go_num,by rw [HN.out]; exact unfI_next hS.out hlt HB5.out⟩
     case measure=>simp [intOf]; omega
  ·obtain rfl:j=n:=by omega
   have dl:decide ((j:Int) < (j:Int))=false:=decide_eq_false (by omega)
   go_wp2_with fail
   go_end0
   exact⟨rfl,hS.out⟩
theorem unfilter_any (k:Int) (hk:0≤k∧k≤4) (r u:Nat→Int) (unit n base G cb ga ca:Nat) (w:World) (hu:1≤unit∧unit≤8) (hn:n≤200) (hr:∀ i,0≤r i∧r i < 256) (hub:∀ i,0≤u i∧u i < 256) (hO:BFn w base G n cb r) (hA:BAt w ga n u) (hne2:ga≠G):
  Calls Tryd.prog 88 #[.int .i64 k,.slice (some ⟨G,0,none⟩) n cb,.slice (some ⟨ga,0,none⟩) n ca,.int .i64 (unit:Int)] w fun e w'=>e=.returned (.tuple #[])∧UnfI w w' base G n cb r (unfL k r u unit n) n:=by
 obtain rfl | rfl | rfl | rfl | rfl:k=0∨k=1∨k=2∨k=3∨k=4:=by omega
 ·exact unfilter_0 r u unit n base G cb ga ca w hu hn hr hub hO hA hne2
 ·exact unfilter_1 r u unit n base G cb ga ca w hu hn hr hub hO hA hne2
 ·exact unfilter_2 r u unit n base G cb ga ca w hu hn hr hub hO hA hne2
 ·exact unfilter_3 r u unit n base G cb ga ca w hu hn hr hub hO hA hne2
 ·exact unfilter_4 r u unit n base G cb ga ca w hu hn hr hub hO hA hne2
end Go.Proofs.YtcbbcadfolgioaaDoor
